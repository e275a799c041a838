import Derived.Test.YtkbinfhclaafhaaDoorJnEq
import Derived.Test.YtkbinfhclaafhaaDoorRefLines
import Derived.Test.YtkbinfhclaafhaaDoorPtLen
import Derived.Deep.DrawnRows
namespace Go.Proofs.YtkbinfhclaafhaaDoor
open Go.RowKit

/-! The law's joined: the walk. -/
def PartsLie (w : World) (g : Nat) (l : List PR) : Prop := ∀ i x, l[i]? = some x → w.cell? ⟨g, i * 5 + 1, none⟩ = some (.int .i64 x.from_) ∧ w.cell? ⟨g, i * 5 + 2, none⟩ = some (.int .i64 x.to_)
def LinesLie (w : World) (g : Nat) (l : List PR) : Prop := ∀ i x, l[i]? = some x → w.cell? ⟨g, i, none⟩ = some (.int .i64 x.line)
def StrsLie (w : World) (g : Nat) (L : List Nat) : Prop := ∀ k, k < L.length → ∃ t : ByteArray, w.cell? ⟨g, k, none⟩ = some (.string t) ∧ t.size = L.getD k 0
theorem PartsLie.below {w w' : World} {g : Nat} {l : List PR} (h : PartsLie w g l) (hb : Below w.heap.size w w') : PartsLie w' g l := fun i x hx => ⟨cell_keep hb (h i x hx).1, cell_keep hb (h i x hx).2⟩
theorem LinesLie.below {w w' : World} {g : Nat} {l : List PR} (h : LinesLie w g l) (hb : Below w.heap.size w w') : LinesLie w' g l := fun i x hx => cell_keep hb (h i x hx)
theorem StrsLie.below {w w' : World} {g : Nat} {L : List Nat} (h : StrsLie w g L) (hb : Below w.heap.size w w') : StrsLie w' g L := fun k hk => (h k hk).imp fun _ h => ⟨cell_keep hb h.1, h.2⟩
theorem partV_at : ∀ (l : List PR) (i : Nat) (hi : i < l.length), (partV l)[i * 5 + 1]? = some (.int .i64 l[i].from_) ∧ (partV l)[i * 5 + 2]? = some (.int .i64 l[i].to_) := by
  intro l
  induction l with
  | nil => intro i hi; simp at hi
  | cons a l ih =>
    intro i hi
    have e : partV (a :: l) = [.int .i64 a.kind, .int .i64 a.from_, .int .i64 a.to_, .int .i64 a.body, .int .i64 a.end_] ++ partV l := by simp [partV, partC]
    cases i with
    | zero => rw [e]; simp
    | succ i =>
      have := ih i (by simpa using hi)
      rw [e, show (i + 1) * 5 = i * 5 + 5 by omega]
      simpa using this
theorem lens_lines {s : ByteArray} {bg i : Nat} (h : i ≤ s.size) (hb : bg ≤ i) : (linesF s bg i).map (·.size) = lensF s bg i := by
  fun_induction linesF s bg i with
  | case1 bg i h1 h2 ih => rw [lensF_nl h1 h2, List.map_cons, ih (by omega) (by omega)]; congr 1; simp; omega
  | case2 bg i h1 h2 ih => rw [lensF_go h1 h2, ih (by omega) (by omega)]
  | case3 bg i h1 => rw [lensF_end h1]; simp; omega
theorem strs_lie {w : World} {B g cap n : Nat} {e : TypeId} {l : List ByteArray} (h : w.ownsRow B e 1 (.slice (some ⟨g, 0, none⟩) n cap) n (linesV l)) (hn : n = l.length) : StrsLie w g (l.map (·.size)) := by
  intro k hk
  have hk' : k < l.length := by simpa using hk
  refine ⟨l[k], ?_, by simp [hk']⟩
  rw [World.ownsRow.cellAt h k (by omega)]
  simp [linesV, hk']
theorem jrow_some {w : World} {B : Nat} {e : TypeId} {z n : Nat} {v : Value} {xs : List Value} (h : w.ownsRow B e z v n xs) (hn : 0 < n) : ∃ g cap, v = .slice (some ⟨g, 0, none⟩) n cap ∧ n ≤ cap := by
  rcases h.2 with ⟨_, h0⟩ | ⟨g, cap, cur, rfl, hb, hh, hc, _⟩
  · omega
  · exact ⟨g, cap, rfl, hc⟩
theorem lensF_len (s : ByteArray) (bg i : Nat) (h : i ≤ s.size) : 0 < (lensF s bg i).length ∧ (lensF s bg i).length ≤ s.size + 1 - i := by
  fun_induction lensF s bg i with
  | case1 bg i h1 h2 ih => have := ih (by omega); simp only [List.length_cons]; omega
  | case2 bg i h1 h2 ih => have := ih (by omega); omega
  | case3 bg i h1 => simp only [List.length_cons, List.length_nil]; omega
set_option maxRecDepth 100000 in
set_option maxHeartbeats 8000000 in
theorem joined_any (s : ByteArray) (l : List PR) (n c1 c2 : Nat) (x1 x2 : Option Addr) (w : World) (hz : s.size ≤ 600) (hn : n = l.length) (hn6 : n ≤ 600) (hj : jn (lensF s 0 0) 0 0 l)
    (hr : 0 < n → ∃ g1 g2, x1 = some ⟨g1, 0, none⟩ ∧ x2 = some ⟨g2, 0, none⟩ ∧ n ≤ c1 ∧ n ≤ c2 ∧ LinesLie w g1 l ∧ PartsLie w g2 l) :
    Calls Tryd.prog 7 #[.string s, .slice x1 n c1, .slice x2 n c2] w fun e w' => e = .returned (.bool true) ∧ Below w.heap.size w w' := by
  have HL := refLines_any s w (by omega)
  have hlen : (linesF s 0 0).length = (lensF s 0 0).length := by rw [← lens_lines (s := s) (bg := 0) (i := 0) (by omega) (by omega)]; simp
  obtain ⟨hl0, hl1⟩ := lensF_len s 0 0 (by omega)
  have hmap := lens_lines (s := s) (bg := 0) (i := 0) (by omega) (by omega)
  have HMap : Hid ((linesF s 0 0).map (·.size) = lensF s 0 0) := hmap
  generalize linesF s 0 0 = LS at *
  generalize lensF s 0 0 = L at *
  obtain ⟨N, hN⟩ : ∃ N, N = L.length := ⟨_, rfl⟩
  rw [hlen, ← hN] at HL
  rw [← hN] at hl0 hl1
  have HN : Hid (N = L.length) := hN
  have HNl : Hid (n = l.length) := hn
  have HR : Hid (0 < n → ∃ g1 g2, x1 = some ⟨g1, 0, none⟩ ∧ x2 = some ⟨g2, 0, none⟩ ∧ n ≤ c1 ∧ n ≤ c2 ∧ LinesLie w g1 l ∧ PartsLie w g2 l) := hr
  have HJ : Hid (jn L 0 0 l) := hj
  have HLS : Hid (N = LS.length) := by show N = _; rw [hN, hlen]
  clear hlen hmap hN hn hr hj
  go_enter Tryd.func7, Tryd.ntmps7
  go_wp2_with fail
  refine HL.mono ?_
  clear HL
  rintro ev W1 ⟨v, rfl, hown, hb1⟩
  obtain ⟨g, cg, rfl, hcg⟩ := jrow_some hown hl0
  have HS : Hid (StrsLie W1 g L) := by show StrsLie _ _ _; rw [← HMap.out]; exact strs_lie hown HLS.out
  have HB1 : Hid (Below w.heap.size w W1) := hb1
  clear hown hb1 HMap HLS
  go_wp2
  go_loopg [8, 9, 10, 11] n (fun gk pv lv iv _ W => ∃ (i line p : Nat), i ≤ n ∧ gk = n - i ∧ pv = .int .i64 p ∧ lv = .int .i64 line ∧ iv = .int .i64 i ∧ jn L line p (l.drop i) ∧ line < N ∧ Below W1.heap.size W1 W)
  case atStart => exact ⟨0, 0, 0, by omega, rfl, rfl, rfl, rfl, HJ.out, hl0, Below.refl _ _⟩
  case round =>
    rename World => wo
    obtain ⟨i, line, p, hi, rfl, rfl, rfl, rfl, hj, hline, hb⟩ := hrel
    obtain ⟨t0, ht0, hts0⟩ := (HS.out.below hb) line (by rw [← HN.out]; exact hline)
    have HB : Hid (Below W1.heap.size W1 wo) := hb
    by_cases hlt : i < n
    · have hil : i < l.length := by rw [← HNl.out]; exact hlt
      obtain ⟨g1, g2, rfl, rfl, hc1, hc2, hLi, hPa⟩ := HR.out (by omega)
      have hbw : Below w.heap.size w wo := HB1.out.trans (hb.mono HB1.out.size)
      have hdr : l.drop i = l[i]'hil :: l.drop (i + 1) := List.drop_eq_getElem_cons hil
      obtain ⟨x, hx⟩ : ∃ x, x = l[i]'hil := ⟨_, rfl⟩
      rw [← hx] at hdr
      have HX : Hid (l[i]? = some x) := by show _ = _; rw [List.getElem?_eq_getElem hil, hx]
      have r0 := (hLi.below hbw) i x HX.out
      obtain ⟨r1, r2⟩ := (hPa.below hbw) i x HX.out
      have HLi : Hid (LinesLie w g1 l) := hLi
      have HPa : Hid (PartsLie w g2 l) := hPa
      rw [hdr] at hj
      clear hx hdr hLi hPa hbw
      obtain ⟨xl, xk, xf, xt, xb, xe⟩ := x
      obtain ⟨j1, j2, j3, j4, j5, j6, j7⟩ := hj
      simp only at r0 r1 r2 j1 j2 j3 j4 j5 j6 j7
      obtain ⟨rs, hrs⟩ : ∃ rs, rs = l.drop (i + 1) := ⟨_, rfl⟩
      have HDr : Hid (rs = l.drop (i + 1)) := hrs
      rw [← hrs] at j7
      have HJr : Hid (jn L xl xt rs) := j7
      obtain ⟨tx, htx, hsx⟩ := (HS.out.below hb) xl j2
      have xN : xl < N := by rw [HN.out]; exact j2
      have hin : (i : Int) < (n : Int) := by omega
      have hq1 : ¬ (xl : Int) < (line : Int) := by omega
      have hq2 : ¬ (xl : Int) ≥ (N : Int) := by omega
      rw [← hsx] at j6
      have hq3 : ¬ (xt : Int) ≤ (xf : Int) := by omega
      have hq4 : ¬ (xt : Int) > (tx.size : Int) := by omega
      clear hrs j7 j2 hsx hil hb
      by_cases hll : line < xl
      · obtain ⟨j3a, j3b⟩ := j3 hll
        rw [← hts0] at j3a
        rw [if_pos hll] at j4
        subst j3a
        subst j4
        have hq5 : (xl : Int) > (line : Int) := by omega
        have HZ : Hid (∀ k, line < k → k < xl → L.getD k 0 = 0) := j3b
        clear j3 j3b hts0
        go_wp2
        go_loopg [11] (xl - (line + 1)) (fun gk kv W => ∃ (k : Nat), line < k ∧ k ≤ xl ∧ gk = xl - k ∧ kv = .int .i64 k ∧ Below W1.heap.size W1 W)
        case atStart => exact ⟨line + 1, by omega, by omega, rfl, by go_num, HB.out⟩
        case round =>
          rename World => wk
          obtain ⟨k, hk1, hk2, rfl, rfl, hbk⟩ := hrel
          have hbw : Below w.heap.size w wk := HB1.out.trans (hbk.mono HB1.out.size)
          have r0 := (HLi.out.below hbw) i _ HX.out
          obtain ⟨r1, r2⟩ := (HPa.out.below hbw) i _ HX.out
          simp only at r0 r1 r2
          have HBk : Hid (Below W1.heap.size W1 wk) := hbk
          by_cases hkl : k < xl
          · obtain ⟨tk, htk, hsk⟩ := (HS.out.below hbk) k (by rw [← HN.out]; omega)
            rw [HZ.out k hk1 hkl] at hsk
            have hq6 : (k : Int) < (xl : Int) := by omega
            have hq7 : ¬ (tk.size : Int) > 0 := by omega
            have hq8 : k < N := by omega
            clear hbk hbw hsk r1 r2
            go_wp2
            go_roundg (xl - (k + 1))
            case measure => omega
            case rel => exact ⟨k + 1, by omega, by omega, rfl, by go_num, HBk.out⟩
          · have hq6 : ¬ (k : Int) < (xl : Int) := by omega
            obtain ⟨tx2, htx2, hsx2⟩ := (HS.out.below hbk) xl (by rw [← HN.out]; exact xN)
            obtain ⟨tx3, htx3, hsx3⟩ := (HS.out.below HB.out) xl (by rw [← HN.out]; exact xN)
            have hte : tx2.size = tx.size := by
              have := htx.symm.trans htx3
              simp only [Option.some.injEq, Value.string.injEq] at this
              rw [this, hsx2, hsx3]
            have hq4' : ¬ (xt : Int) > (tx2.size : Int) := by omega
            have hx0 : ¬ xt = 0 := by omega
            have hx1 : 0 < xt := by omega
            have hx2 : ¬ (xt : Int) ≤ 0 := by omega
            clear hbk hbw hsx2 htx3 hsx3 hte hq4 htx ht0 hq3
            go_wp2_with fail
            go_quiet (fail)
            go_wp2
            go_roundg (n - (i + 1))
            case measure => omega
            case rel => exact ⟨i + 1, xl, xt, by omega, rfl, rfl, rfl, by go_num, by rw [← HDr.out]; exact HJr.out, xN, below_drewN HBk.out _⟩
      · obtain rfl : line = xl := by omega
        rw [if_neg hll] at j4
        subst j4
        have hq5 : ¬ (line : Int) > (line : Int) := by omega
        have hts : tx = t0 := by have := htx.symm.trans ht0; simpa using this
        subst hts
        clear j3 htx hts0
        go_wp2_with fail
        go_quiet (fail)
        go_wp2
        go_roundg (n - (i + 1))
        case measure => omega
        case rel => exact ⟨i + 1, line, xt, by omega, rfl, rfl, rfl, by go_num, by rw [← HDr.out]; exact HJr.out, hline, below_drewN HB.out _⟩
    · obtain rfl : i = n := by omega
      have hin : ¬ (i : Int) < (i : Int) := by omega
      rw [List.drop_of_length_le (by rw [HNl.out]; exact Nat.le_refl _)] at hj
      obtain ⟨j1, j2, j3⟩ := hj
      rw [← hts0] at j2
      subst j2
      have HZ : Hid (∀ k, line < k → k < L.length → L.getD k 0 = 0) := j3
      clear j3 hts0 hb j1
      go_wp2
      go_loopg [12] (N - (line + 1)) (fun gk kv W => ∃ (k : Nat), line < k ∧ k ≤ N ∧ gk = N - k ∧ kv = .int .i64 k ∧ Below W1.heap.size W1 W)
      case atStart => exact ⟨line + 1, by omega, by omega, rfl, by go_num, HB.out⟩
      case round =>
        rename World => wk
        obtain ⟨k, hk1, hk2, rfl, rfl, hbk⟩ := hrel
        have HBk : Hid (Below W1.heap.size W1 wk) := hbk
        by_cases hkl : k < N
        · obtain ⟨tk, htk, hsk⟩ := (HS.out.below hbk) k (by rw [← HN.out]; omega)
          rw [HZ.out k hk1 (by rw [← HN.out]; exact hkl)] at hsk
          have hq6 : (k : Int) < (N : Int) := by omega
          have hq7 : ¬ (tk.size : Int) > 0 := by omega
          clear hbk hsk
          go_wp2
          go_roundg (N - (k + 1))
          case measure => omega
          case rel => exact ⟨k + 1, by omega, by omega, rfl, by go_num, HBk.out⟩
        · have hq6 : ¬ (k : Int) < (N : Int) := by omega
          obtain ⟨t2, ht2, hs2⟩ := (HS.out.below hbk) line (by rw [← HN.out]; exact hline)
          obtain ⟨t3, ht3, hs3⟩ := (HS.out.below HB.out) line (by rw [← HN.out]; exact hline)
          have hte : t2.size = t0.size := by
            have := ht0.symm.trans ht3
            simp only [Option.some.injEq, Value.string.injEq] at this
            rw [this, hs2, hs3]
          have hte' : ((t0.size : Int) == (t2.size : Int)) = true := by rw [hte]; simp
          clear hbk hs2 ht3 hs3 hte ht0
          go_wp2
          go_ret
          exact ⟨by first | rfl | simp [hte'], HB1.out.trans (HBk.out.mono HB1.out.size)⟩
end Go.Proofs.YtkbinfhclaafhaaDoor
