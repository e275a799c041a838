import Derived.Test.YtkbinfhclaafhaaGreatDoorPtLaw
import Derived.Deep.DrawnRows
namespace Go.Proofs.YtkbinfhclaafhaaGreatDoor
open Go.RowKit

/-! The law's parts: the walk. -/
theorem takeX_le (n : Int) (l : List PR) : (takeX n l).length ≤ l.length := by
  unfold takeX
  split
  · simp; omega
  · exact Nat.le_refl _
theorem heap_lt_cell {w : World} {b j : Nat} {v : Value} (h : w.cell? ⟨b, j, none⟩ = some v) : b < w.heap.size := by
  unfold World.cell? at h
  split at h
  · rename_i hh; exact heapLt hh
  · cases h
set_option maxRecDepth 100000 in
set_option maxHeartbeats 8000000 in
theorem lawParts_any (k a : Int) (s : ByteArray) (oe : Value) (w : World) (env : PEnv w) (h20 : 10 ≤ w.heap.size) :
    Calls Tryz.prog 31 #[.agg #[.int .i64 k, .int .i64 a, .string s, oe]] w fun e w' => e = .returned (.bool true) ∧ Below w.heap.size w w' := by
  have HB0 : Hid (Below w.heap.size w (w.alloc (.cells #[.int .i64 k, .int .i64 a, .string s, oe] 29))) := (Below.refl _ _).alloc (Nat.le_refl _) _
  have HO : Hid ((w.alloc (.cells #[.int .i64 k, .int .i64 a, .string s, oe] 29)).heap[w.heap.size]? = some (.cells #[.int .i64 k, .int .i64 a, .string s, oe] 29 (0, 0))) := World.alloc_heap_new _ _
  have HE : Hid (PEnv w) := env
  have HN : Hid (10 ≤ w.heap.size) := h20
  clear env h20
  obtain ⟨L, hL⟩ : ∃ L, L = partsX s := ⟨_, rfl⟩
  have HL : Hid (L = partsX s) := hL
  have HQ := refParts_any s (w.alloc (.cells #[.int .i64 k, .int .i64 a, .string s, oe] 29))
  rw [docR_eq, ← hL] at HQ
  have HQ1 : Hid _ := HQ
  have hL6 : L.length ≤ 600 := by rw [hL]; exact partsX_len s
  clear hL HQ
  by_cases hc : 0 < a ∧ a < L.length
  · obtain ⟨m, rfl⟩ : ∃ m : Nat, a = (m : Int) := ⟨a.toNat, by omega⟩
    obtain ⟨ha1, ha2⟩ := hc
    have HT : Hid (L.take m = takeX m (partsX s)) := by show _ = _; rw [← HL.out]; unfold takeX; rw [if_pos ⟨ha1, ha2⟩]; rfl
    have hlm : (L.take m).length = m := by simp; omega
    go_enter Tryz.func31, Tryz.ntmps31
    go_wp2_with fail
    refine Calls.mono HQ1.out ?_
    rintro ev W1 ⟨v, rfl, hr, hb1⟩
    obtain ⟨vg, vc, rfl, hvc, _⟩ := row_some hr (by omega)
    obtain ⟨vq, hvq⟩ : ∃ vq, vq = some (⟨vg, 0, none⟩ : Addr) := ⟨_, rfl⟩
    have HV : Hid (0 < (L.take m).length → ∃ g, vq = some ⟨g, 0, none⟩ ∧ (L.take m).length ≤ vc ∧ DocAt W1 g (L.take m)) := fun _ => ⟨vg, hvq, by omega, (docAt_of hr rfl).take m⟩
    have HB1 : Hid (Below w.heap.size w W1) := HB0.out.trans (hb1.mono HB0.out.size)
    have hz1 : w.heap.size ≤ W1.heap.size := HB1.out.size
    have HO1 : Hid (W1.heap[w.heap.size]? = some (.cells #[.int .i64 k, .int .i64 (m : Int), .string s, oe] 29 (0, 0))) := heap_keep hb1 HO.out
    have HP : Hid (Calls Tryz.prog 43 #[.string s, .int .i64 (m : Int)] W1 fun e w' => ∃ v1 v2 l, e = .returned (.tuple #[v1, v2]) ∧ w'.ownsRow W1.heap.size 3 1 v1 l.length (lineV l) ∧ w'.ownsRow W1.heap.size 75 5 v2 l.length (partV l) ∧ Below W1.heap.size W1 w' ∧ ((l = partsX s ∧ GoesOn (m : Int) l) ∨ (l <+: partsX s ∧ Stops (m : Int) l))) := plainParts_any W1 s (m : Int) (HE.out.below HN.out HB1.out) (Nat.le_trans HN.out hz1)
    have o1 := cell_of HO1.out 1
    have o2 := cell_of HO1.out 2
    simp only [List.getElem?_toArray, List.getElem?_cons_succ, List.getElem?_cons_zero] at o1 o2
    clear hr hb1 HQ1 HO HL HE HN
    have hvc0 : ¬ vc = 0 := by omega
    obtain ⟨N, hN⟩ : ∃ N, N = L.length := ⟨_, rfl⟩
    have HNN : Hid (N = L.length) := hN
    rw [← hN] at ha2 hvc hL6 ⊢
    clear hN
    go_wp2_with fail
    refine HP.out.mono ?_
    rintro ev W2 ⟨v1, v2, l, rfl, hr1, hr2, hb2, hl⟩
    have hle := told_eq hl
    rw [← HT.out] at hle
    subst hle
    obtain ⟨x1, c1, rfl⟩ := row_form hr1
    obtain ⟨x2, c2, rfl⟩ := row_form hr2
    have HB2 : Hid (Below w.heap.size w W2) := HB1.out.trans (hb2.mono hz1)
    obtain ⟨l, hll⟩ : ∃ l, l = (L.take m) := ⟨_, rfl⟩
    rw [← hll] at HT hr1 hr2 HV
    have HK : Hid (∀ i (hi : i < l.length), l[i].kind = 0 → l[i].body = l[i].end_) := fun i hi => by
      have := takeX_code s (m : Int) l[i] (by rw [← HT.out]; exact List.getElem_mem hi)
      exact this
    obtain ⟨n, hn⟩ : ∃ n, n = l.length := ⟨_, rfl⟩
    have hn2 : n ≤ 600 := by rw [hn, HT.out]; exact Nat.le_trans (takeX_le _ _) (partsX_len s)
    have HR : Hid (0 < n → ∃ g g1 g2, vq = some ⟨g, 0, none⟩ ∧ x1 = some ⟨g1, 0, none⟩ ∧ x2 = some ⟨g2, 0, none⟩ ∧ n ≤ vc ∧ n ≤ c1 ∧ n ≤ c2 ∧ DocAt W2 g l ∧ LineAt W2 g1 l ∧ PartAt W2 g2 l) := fun h0 => by
      rw [hn] at h0
      obtain ⟨g, hg, hgc, hgd⟩ := HV.out h0
      obtain ⟨g1, d1, e1, hd1, _⟩ := row_some hr1 h0
      obtain ⟨g2, d2, e2, hd2, _⟩ := row_some hr2 h0
      simp only [Value.slice.injEq, true_and] at e1 e2
      obtain ⟨rfl, rfl⟩ := e1
      obtain ⟨rfl, rfl⟩ := e2
      exact ⟨g, g1, g2, hg, rfl, rfl, by omega, by omega, by omega, hgd.below hb2, lineAt_of hr1 rfl, partAt_of hr2 rfl⟩
    have HNl : Hid (n = l.length) := hn
    rw [← hll, ← hn]
    have hLn : n = m := by rw [hn, hll, hlm]
    rw [← hvq]
    subst hLn
    clear hn hr1 hr2 hl hb2 HV HT HP hll o1 o2 hvq hlm
    go_wp2
    go_loopg [6, 7] n (fun gk iv _ W => ∃ (q : Nat), q ≤ n ∧ gk = n - q ∧ iv = .int .i64 q ∧ Below W2.heap.size W2 W)
    case atStart => exact ⟨0, by omega, rfl, rfl, Below.refl _ _⟩
    case round =>
      obtain ⟨q, hq, rfl, rfl, hBq⟩ := hrel
      by_cases hlt : q < n
      · have hqe : q < l.length := by rw [← HNl.out]; exact hlt
        obtain ⟨g, g1, g2, rfl, rfl, rfl, hcv, hc1, hc2, hD, hL, hP⟩ := HR.out (by omega)
        obtain ⟨d0, d1, d2, d3, d4, d5⟩ := (hD.below hBq) q hqe
        have l0 := (hL.below hBq) q hqe
        obtain ⟨p0, p1, p2, p3, p4⟩ := (hP.below hBq) q hqe
        have hk := HK.out q hqe
        have gl := heap_lt_cell l0
        have gp := heap_lt_cell p0
        generalize l[q] = e at *
        obtain ⟨eln, ekd, efr, eto, ebd, een⟩ := e
        simp only at d0 d1 d2 d3 d4 d5 l0 p0 p1 p2 p3 p4 hk
        have hqm : (q : Int) < (n : Int) := by omega
        have HBq : Hid _ := hBq
        have hwq := hBq.size
        clear hBq hqe hD hL hP HK
        by_cases hk0 : ekd = 0
        · have hbe := hk hk0
          subst hk0
          subst hbe
          clear hk
          go_wp2_with fail
          go_quiet (fail)
          go_wp2_with fail
          go_quiet (fail)
          go_wp2_with fail
          go_quiet (fail)
          go_wp2
          go_roundg (n - (q + 1))
          case measure => omega
          case rel => exact ⟨q + 1, by omega, rfl, by go_num, below_drewN (HBq.out.alloc hwq _) _⟩
        · have hk1 : (ekd : Int) > 0 := by omega
          have hk2 : ((ekd : Int) == 0) = false := by simpa using hk0
          have hk3 : 0 < ekd := by omega
          have hk4 : ¬ ekd = 0 := by omega
          clear hk hk0
          go_wp2_with fail
          go_quiet (fail)
          go_wp2_with fail
          go_quiet (fail)
          go_wp2_with fail
          go_quiet (fail)
          go_wp2
          go_roundg (n - (q + 1))
          case measure => omega
          case rel => exact ⟨q + 1, by omega, rfl, by go_num, below_drewN (HBq.out.alloc hwq _) _⟩
      · obtain rfl : q = n := by omega
        have hqm : ¬ (q : Int) < (q : Int) := by omega
        have HBq : Hid _ := hBq
        clear hBq
        go_wp2
        go_ret
        exact ⟨rfl, HB2.out.trans (HBq.out.mono HB2.out.size)⟩
  · have HT : Hid (L = takeX a (partsX s)) := by show _ = _; rw [← HL.out]; unfold takeX; rw [if_neg hc]
    by_cases h1 : (0 : Int) < a
    · go_enter Tryz.func31, Tryz.ntmps31
      go_wp2_with fail
      refine Calls.mono HQ1.out ?_
      rintro ev W1 ⟨v, rfl, hr, hb1⟩
      obtain ⟨vq, vc, rfl⟩ := row_form hr
      have HV : Hid (0 < L.length → ∃ g, vq = some ⟨g, 0, none⟩ ∧ L.length ≤ vc ∧ DocAt W1 g L) := fun h0 => by
        obtain ⟨vg, vd, e1, hvc, _⟩ := row_some hr h0
        simp only [Value.slice.injEq, true_and] at e1
        obtain ⟨rfl, rfl⟩ := e1
        exact ⟨vg, rfl, hvc, docAt_of hr rfl⟩
      have HB1 : Hid (Below w.heap.size w W1) := HB0.out.trans (hb1.mono HB0.out.size)
      have hz1 : w.heap.size ≤ W1.heap.size := HB1.out.size
      have HO1 : Hid (W1.heap[w.heap.size]? = some (.cells #[.int .i64 k, .int .i64 a, .string s, oe] 29 (0, 0))) := heap_keep hb1 HO.out
      have HP : Hid (Calls Tryz.prog 43 #[.string s, .int .i64 a] W1 fun e w' => ∃ v1 v2 l, e = .returned (.tuple #[v1, v2]) ∧ w'.ownsRow W1.heap.size 3 1 v1 l.length (lineV l) ∧ w'.ownsRow W1.heap.size 75 5 v2 l.length (partV l) ∧ Below W1.heap.size W1 w' ∧ ((l = partsX s ∧ GoesOn a l) ∨ (l <+: partsX s ∧ Stops a l))) := plainParts_any W1 s a (HE.out.below HN.out HB1.out) (Nat.le_trans HN.out hz1)
      have o1 := cell_of HO1.out 1
      have o2 := cell_of HO1.out 2
      simp only [List.getElem?_toArray, List.getElem?_cons_succ, List.getElem?_cons_zero] at o1 o2
      clear hr hb1 HQ1 HO HL HE HN
      obtain ⟨N, hN⟩ : ∃ N, N = L.length := ⟨_, rfl⟩
      have HNN : Hid (N = L.length) := hN
      rw [← hN] at hc hL6 ⊢
      clear hN
      have h2 : ¬ a < (N : Int) := fun h => hc ⟨h1, h⟩
      clear hc
      go_wp2_with fail
      refine HP.out.mono ?_
      rintro ev W2 ⟨v1, v2, l, rfl, hr1, hr2, hb2, hl⟩
      have hle := told_eq hl
      rw [← HT.out] at hle
      subst hle
      obtain ⟨x1, c1, rfl⟩ := row_form hr1
      obtain ⟨x2, c2, rfl⟩ := row_form hr2
      have HB2 : Hid (Below w.heap.size w W2) := HB1.out.trans (hb2.mono hz1)
      have HK : Hid (∀ i (hi : i < l.length), l[i].kind = 0 → l[i].body = l[i].end_) := fun i hi => by
        have := takeX_code s a l[i] (by rw [← HT.out]; exact List.getElem_mem hi)
        exact this
      obtain ⟨n, hn⟩ : ∃ n, n = l.length := ⟨_, rfl⟩
      have hn2 : n ≤ 600 := by rw [hn, HT.out]; exact Nat.le_trans (takeX_le _ _) (partsX_len s)
      have HR : Hid (0 < n → ∃ g g1 g2, vq = some ⟨g, 0, none⟩ ∧ x1 = some ⟨g1, 0, none⟩ ∧ x2 = some ⟨g2, 0, none⟩ ∧ n ≤ vc ∧ n ≤ c1 ∧ n ≤ c2 ∧ DocAt W2 g l ∧ LineAt W2 g1 l ∧ PartAt W2 g2 l) := fun h0 => by
        rw [hn] at h0
        obtain ⟨g, hg, hgc, hgd⟩ := HV.out h0
        obtain ⟨g1, d1, e1, hd1, _⟩ := row_some hr1 h0
        obtain ⟨g2, d2, e2, hd2, _⟩ := row_some hr2 h0
        simp only [Value.slice.injEq, true_and] at e1 e2
        obtain ⟨rfl, rfl⟩ := e1
        obtain ⟨rfl, rfl⟩ := e2
        exact ⟨g, g1, g2, hg, rfl, rfl, by omega, by omega, by omega, hgd.below hb2, lineAt_of hr1 rfl, partAt_of hr2 rfl⟩
      have HNl : Hid (n = l.length) := hn
      rw [← hn]
      have hLn : n = N := by rw [hn, HNN.out]
      subst hLn
      clear hn hr1 hr2 hl hb2 HV HT HP o1 o2
      go_wp2
      go_loopg [6, 7] n (fun gk iv _ W => ∃ (q : Nat), q ≤ n ∧ gk = n - q ∧ iv = .int .i64 q ∧ Below W2.heap.size W2 W)
      case atStart => exact ⟨0, by omega, rfl, rfl, Below.refl _ _⟩
      case round =>
        obtain ⟨q, hq, rfl, rfl, hBq⟩ := hrel
        by_cases hlt : q < n
        · have hqe : q < l.length := by rw [← HNl.out]; exact hlt
          obtain ⟨g, g1, g2, rfl, rfl, rfl, hcv, hc1, hc2, hD, hL, hP⟩ := HR.out (by omega)
          obtain ⟨d0, d1, d2, d3, d4, d5⟩ := (hD.below hBq) q hqe
          have l0 := (hL.below hBq) q hqe
          obtain ⟨p0, p1, p2, p3, p4⟩ := (hP.below hBq) q hqe
          have hk := HK.out q hqe
          have gl := heap_lt_cell l0
          have gp := heap_lt_cell p0
          generalize l[q] = e at *
          obtain ⟨eln, ekd, efr, eto, ebd, een⟩ := e
          simp only at d0 d1 d2 d3 d4 d5 l0 p0 p1 p2 p3 p4 hk
          have hqm : (q : Int) < (n : Int) := by omega
          have HBq : Hid _ := hBq
          have hwq := hBq.size
          clear hBq hqe hD hL hP HK
          by_cases hk0 : ekd = 0
          · have hbe := hk hk0
            subst hk0
            subst hbe
            clear hk
            go_wp2_with fail
            go_quiet (fail)
            go_wp2_with fail
            go_quiet (fail)
            go_wp2_with fail
            go_quiet (fail)
            go_wp2
            go_roundg (n - (q + 1))
            case measure => omega
            case rel => exact ⟨q + 1, by omega, rfl, by go_num, below_drewN (HBq.out.alloc hwq _) _⟩
          · have hk1 : (ekd : Int) > 0 := by omega
            have hk2 : ((ekd : Int) == 0) = false := by simpa using hk0
            have hk3 : 0 < ekd := by omega
            have hk4 : ¬ ekd = 0 := by omega
            clear hk hk0
            go_wp2_with fail
            go_quiet (fail)
            go_wp2_with fail
            go_quiet (fail)
            go_wp2_with fail
            go_quiet (fail)
            go_wp2
            go_roundg (n - (q + 1))
            case measure => omega
            case rel => exact ⟨q + 1, by omega, rfl, by go_num, below_drewN (HBq.out.alloc hwq _) _⟩
        · obtain rfl : q = n := by omega
          have hqm : ¬ (q : Int) < (q : Int) := by omega
          have HBq : Hid _ := hBq
          clear hBq
          go_wp2
          go_ret
          exact ⟨rfl, HB2.out.trans (HBq.out.mono HB2.out.size)⟩
    · go_enter Tryz.func31, Tryz.ntmps31
      go_wp2_with fail
      refine Calls.mono HQ1.out ?_
      rintro ev W1 ⟨v, rfl, hr, hb1⟩
      obtain ⟨vq, vc, rfl⟩ := row_form hr
      have HV : Hid (0 < L.length → ∃ g, vq = some ⟨g, 0, none⟩ ∧ L.length ≤ vc ∧ DocAt W1 g L) := fun h0 => by
        obtain ⟨vg, vd, e1, hvc, _⟩ := row_some hr h0
        simp only [Value.slice.injEq, true_and] at e1
        obtain ⟨rfl, rfl⟩ := e1
        exact ⟨vg, rfl, hvc, docAt_of hr rfl⟩
      have HB1 : Hid (Below w.heap.size w W1) := HB0.out.trans (hb1.mono HB0.out.size)
      have hz1 : w.heap.size ≤ W1.heap.size := HB1.out.size
      have HO1 : Hid (W1.heap[w.heap.size]? = some (.cells #[.int .i64 k, .int .i64 a, .string s, oe] 29 (0, 0))) := heap_keep hb1 HO.out
      have HP : Hid (Calls Tryz.prog 43 #[.string s, .int .i64 a] W1 fun e w' => ∃ v1 v2 l, e = .returned (.tuple #[v1, v2]) ∧ w'.ownsRow W1.heap.size 3 1 v1 l.length (lineV l) ∧ w'.ownsRow W1.heap.size 75 5 v2 l.length (partV l) ∧ Below W1.heap.size W1 w' ∧ ((l = partsX s ∧ GoesOn a l) ∨ (l <+: partsX s ∧ Stops a l))) := plainParts_any W1 s a (HE.out.below HN.out HB1.out) (Nat.le_trans HN.out hz1)
      have o1 := cell_of HO1.out 1
      have o2 := cell_of HO1.out 2
      simp only [List.getElem?_toArray, List.getElem?_cons_succ, List.getElem?_cons_zero] at o1 o2
      clear hr hb1 HQ1 HO HL HE HN
      obtain ⟨N, hN⟩ : ∃ N, N = L.length := ⟨_, rfl⟩
      have HNN : Hid (N = L.length) := hN
      rw [← hN] at hc hL6 ⊢
      clear hN
      clear hc
      go_wp2_with fail
      refine HP.out.mono ?_
      rintro ev W2 ⟨v1, v2, l, rfl, hr1, hr2, hb2, hl⟩
      have hle := told_eq hl
      rw [← HT.out] at hle
      subst hle
      obtain ⟨x1, c1, rfl⟩ := row_form hr1
      obtain ⟨x2, c2, rfl⟩ := row_form hr2
      have HB2 : Hid (Below w.heap.size w W2) := HB1.out.trans (hb2.mono hz1)
      have HK : Hid (∀ i (hi : i < l.length), l[i].kind = 0 → l[i].body = l[i].end_) := fun i hi => by
        have := takeX_code s a l[i] (by rw [← HT.out]; exact List.getElem_mem hi)
        exact this
      obtain ⟨n, hn⟩ : ∃ n, n = l.length := ⟨_, rfl⟩
      have hn2 : n ≤ 600 := by rw [hn, HT.out]; exact Nat.le_trans (takeX_le _ _) (partsX_len s)
      have HR : Hid (0 < n → ∃ g g1 g2, vq = some ⟨g, 0, none⟩ ∧ x1 = some ⟨g1, 0, none⟩ ∧ x2 = some ⟨g2, 0, none⟩ ∧ n ≤ vc ∧ n ≤ c1 ∧ n ≤ c2 ∧ DocAt W2 g l ∧ LineAt W2 g1 l ∧ PartAt W2 g2 l) := fun h0 => by
        rw [hn] at h0
        obtain ⟨g, hg, hgc, hgd⟩ := HV.out h0
        obtain ⟨g1, d1, e1, hd1, _⟩ := row_some hr1 h0
        obtain ⟨g2, d2, e2, hd2, _⟩ := row_some hr2 h0
        simp only [Value.slice.injEq, true_and] at e1 e2
        obtain ⟨rfl, rfl⟩ := e1
        obtain ⟨rfl, rfl⟩ := e2
        exact ⟨g, g1, g2, hg, rfl, rfl, by omega, by omega, by omega, hgd.below hb2, lineAt_of hr1 rfl, partAt_of hr2 rfl⟩
      have HNl : Hid (n = l.length) := hn
      rw [← hn]
      have hLn : n = N := by rw [hn, HNN.out]
      subst hLn
      clear hn hr1 hr2 hl hb2 HV HT HP o1 o2
      go_wp2
      go_loopg [6, 7] n (fun gk iv _ W => ∃ (q : Nat), q ≤ n ∧ gk = n - q ∧ iv = .int .i64 q ∧ Below W2.heap.size W2 W)
      case atStart => exact ⟨0, by omega, rfl, rfl, Below.refl _ _⟩
      case round =>
        obtain ⟨q, hq, rfl, rfl, hBq⟩ := hrel
        by_cases hlt : q < n
        · have hqe : q < l.length := by rw [← HNl.out]; exact hlt
          obtain ⟨g, g1, g2, rfl, rfl, rfl, hcv, hc1, hc2, hD, hL, hP⟩ := HR.out (by omega)
          obtain ⟨d0, d1, d2, d3, d4, d5⟩ := (hD.below hBq) q hqe
          have l0 := (hL.below hBq) q hqe
          obtain ⟨p0, p1, p2, p3, p4⟩ := (hP.below hBq) q hqe
          have hk := HK.out q hqe
          have gl := heap_lt_cell l0
          have gp := heap_lt_cell p0
          generalize l[q] = e at *
          obtain ⟨eln, ekd, efr, eto, ebd, een⟩ := e
          simp only at d0 d1 d2 d3 d4 d5 l0 p0 p1 p2 p3 p4 hk
          have hqm : (q : Int) < (n : Int) := by omega
          have HBq : Hid _ := hBq
          have hwq := hBq.size
          clear hBq hqe hD hL hP HK
          by_cases hk0 : ekd = 0
          · have hbe := hk hk0
            subst hk0
            subst hbe
            clear hk
            go_wp2_with fail
            go_quiet (fail)
            go_wp2_with fail
            go_quiet (fail)
            go_wp2_with fail
            go_quiet (fail)
            go_wp2
            go_roundg (n - (q + 1))
            case measure => omega
            case rel => exact ⟨q + 1, by omega, rfl, by go_num, below_drewN (HBq.out.alloc hwq _) _⟩
          · have hk1 : (ekd : Int) > 0 := by omega
            have hk2 : ((ekd : Int) == 0) = false := by simpa using hk0
            have hk3 : 0 < ekd := by omega
            have hk4 : ¬ ekd = 0 := by omega
            clear hk hk0
            go_wp2_with fail
            go_quiet (fail)
            go_wp2_with fail
            go_quiet (fail)
            go_wp2_with fail
            go_quiet (fail)
            go_wp2
            go_roundg (n - (q + 1))
            case measure => omega
            case rel => exact ⟨q + 1, by omega, rfl, by go_num, below_drewN (HBq.out.alloc hwq _) _⟩
        · obtain rfl : q = n := by omega
          have hqm : ¬ (q : Int) < (q : Int) := by omega
          have HBq : Hid _ := hBq
          clear hBq
          go_wp2
          go_ret
          exact ⟨rfl, HB2.out.trans (HBq.out.mono HB2.out.size)⟩
end Go.Proofs.YtkbinfhclaafhaaGreatDoor
