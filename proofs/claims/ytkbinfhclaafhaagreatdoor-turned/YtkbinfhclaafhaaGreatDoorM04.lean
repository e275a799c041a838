import Derived.Test.YtkbinfhclaafhaaGreatDoorM03
import Derived.Test.YtkbinfhclaafhaaGreatDoorM02
namespace Go.Proofs.YtkbinfhclaafhaaGreatDoor
open Go.RowKit
theorem Tryz.pairF (a b : Int) (w : World) : (Instr.field 194 (.agg #[.int .i64 a, .int .i64 b]) 0).run Tryz.prog w = .ok (.int .i64 a) w := by kernel_rfl
theorem Tryz.pairT (a b : Int) (w : World) : (Instr.field 194 (.agg #[.int .i64 a, .int .i64 b]) 1).run Tryz.prog w = .ok (.int .i64 b) w := by kernel_rfl
theorem IntsAt.stay {w w' : World} {B b off : Nat} {l : List Int} (h : IntsAt w b off l) (hb : Below B w w') (hlt : b < B) : IntsAt w' b off l := fun i hi => by rw [hb.cell (p := ⟨b, off + i, none⟩) hlt]; exact h i hi
def kOf (f z : Nat) : Nat → Nat
 | 0 => f
 | _ => z
def stg (orig : List Int) (d : Int) (f z : Nat) (t : List Int) : Nat → List Int
 | 0 => t
 | j + 1 => setBr orig d (kOf f z j) (stg orig d f z t j)
theorem stg_next (orig : List Int) (d : Int) (f z : Nat) (t : List Int) (j : Nat) (_ : j < 2) : stg orig d f z t (j + 1) = setBr orig d (kOf f z j) (stg orig d f z t j) := rfl
theorem kOf_lt {f z n : Nat} (hfz : f < z) (hz : z < n) : ∀ j, kOf f z j < n
 | 0 => Nat.lt_trans hfz hz
 | _ + 1 => hz
theorem grown_cell {W w : World} {g b k : Nat} (h : W.grownBy w (some g)) (hb : b < W.heap.size) (hne : b ≠ g) : w.cell? ⟨b, k, none⟩ = W.cell? ⟨b, k, none⟩ := by
 simp only [World.cell?]
 rw [h.block b hb (by simpa using hne)]
set_option maxRecDepth 100000 in
set_option maxHeartbeats 8000000 in
theorem paired_row (t orig : List Int) (f z : Nat) (e sos : Int) (B g n cap go oo co : Nat) (w : World) (hr : IRow w B g n cap t) (hn : n ≤ 100000) (ho : orig.length = n) (hor : IntsAt w go oo orig) (hgo : go < w.heap.size) (hne : go ≠ g) (hfz : f < z) (hz : z < n) :
  Calls Tryz.prog 126 #[.slice (some ⟨g, 0, none⟩) n cap, .slice (some ⟨go, oo, none⟩) n co, .agg #[.int .i64 f, .int .i64 z], .int .i64 e, .int .i64 sos] w fun ev w' => ev = .returned (.tuple #[]) ∧ IRow w' B g n cap (pairedL t orig (f, z) e sos) ∧ w.grownBy w' (some g) := by
 have HR : Hid (IRow w B g n cap t) := hr
 have HO : Hid (IntsAt w go oo orig) := hor
 have HOL : Hid (orig.length = n) := ho
 have HGO : Hid (go < w.heap.size ∧ go ≠ g) := ⟨hgo, hne⟩
 clear hr hor ho hgo hne
 have fF := Tryz.pairF
 have fT := Tryz.pairT
 obtain ⟨q, hq⟩ : ∃ q, q = pairedL t orig (f, z) e sos := ⟨_, rfl⟩
 rw [← hq]
 have HQ : Hid (q = pairedL t orig (f, z) e sos) := hq
 clear hq
 have hBw : B ≤ g ∧ g < w.heap.size := World.ownsRow.lt HR.out g rfl
 have HG1 : Hid (w.grownBy (w.alloc (.cells #[.int .i64 f, .int .i64 z] 194)) (some g)) := ⟨rfl, rfl, rfl, by simp, fun k hk _ => Below.heap_alloc w _ k hk⟩
 have HR1 : Hid (IRow (w.alloc (.cells #[.int .i64 f, .int .i64 z] 194)) B g n cap t) := World.ownsRow.alloc HR.out _
 have HO1 : Hid (IntsAt (w.alloc (.cells #[.int .i64 f, .int .i64 z] 194)) go oo orig) := HO.out.stay ((Below.refl w.heap.size w).alloc (Nat.le_refl _) _) HGO.out.1
 have c0 : (w.alloc (.cells #[.int .i64 f, .int .i64 z] 194)).cell? ⟨w.heap.size, 0, none⟩ = some (.int .i64 f) := by simp
 have c1 : (w.alloc (.cells #[.int .i64 f, .int .i64 z] 194)).cell? ⟨w.heap.size, 1, none⟩ = some (.int .i64 z) := by simp
 have HC : Hid (w.heap.size < (w.alloc (.cells #[.int .i64 f, .int .i64 z] 194)).heap.size) := by show _ < _; simp
 have HBg : Hid (B ≤ g ∧ g < w.heap.size) := hBw
 clear hBw HR HO
 go_enter Tryz.func126, Tryz.ntmps126
 go_wp2
 generalize w.alloc (.cells #[.int .i64 f, .int .i64 z] 194) = W1 at *
 generalize w.heap.size = h at *
 go_loopg [10, 11, 12] (z - (f + 1)) (fun gk sv ov i wr => ∃ m : Nat, f + 1 + m ≤ z ∧ gk = z - (f + 1) - m ∧ sv = .bool (anyF (sameB e) t (f + 1) m) ∧ ov = .bool (anyF (otherB e) t (f + 1) m) ∧ i = .int .i64 ((f + 1 + m : Nat) : Int) ∧ wr = W1)
 case atStart => exact ⟨0, by omega, rfl, rfl, rfl, by simp, rfl⟩
 case round =>
  obtain ⟨m, hm, rfl, rfl, rfl, rfl, hw⟩ := hrel
  subst hw
  have hsm := show anyF (sameB e) t (f + 1) (m + 1) = (anyF (sameB e) t (f + 1) m || (strongS (t.getD (f + 1 + m) 0) == e)) from rfl
  have hom := show anyF (otherB e) t (f + 1) (m + 1) = (anyF (otherB e) t (f + 1) m || (decide (0 ≤ strongS (t.getD (f + 1 + m) 0)) && strongS (t.getD (f + 1 + m) 0) != e)) from rfl
  by_cases hlt : f + 1 + m < z
  ·have hcell := HR1.out.cell (f + 1 + m) (by omega)
   generalize t.getD (f + 1 + m) 0 = c at hcell hsm hom
   obtain ⟨p, hp⟩ : ∃ p, p = f + 1 + m := ⟨_, rfl⟩
   have HP : Hid (p = f + 1 + m) := hp
   rw [← hp] at hcell hlt ⊢
   clear hp
   obtain ⟨sc, hsc⟩ : ∃ sc, sc = strongS c := ⟨_, rfl⟩
   rw [← hsc] at hsm hom
   have HSC : Hid (sc = strongS c) := hsc
   clear hsc
   generalize anyF (sameB e) t (f + 1) m = sm at *
   generalize anyF (otherB e) t (f + 1) m = om at *
   have HSM : Hid (anyF (sameB e) t (f + 1) (m + 1) = (sm || (sc == e))) := hsm
   have HOM : Hid (anyF (otherB e) t (f + 1) (m + 1) = (om || (decide (0 ≤ sc) && sc != e))) := hom
   clear hsm hom
   have pn : p < n := by omega
   have hh : ∃ b1 b2, b1 = (sc == e) ∧ b2 = decide (0 ≤ sc) := ⟨_, _, rfl, rfl⟩
   cases sm <;> cases om <;> rcases Int.lt_or_le sc 0 with hs0 | hs0 <;> by_cases hse : sc = e
   all_goals
    first
    |have hse' : (sc == e) = true := by simpa using hse
     have hse2 : (sc != e) = false := by simpa using hse
    |have hse' : (sc == e) = false := by simpa using hse
     have hse2 : (sc != e) = true := by simpa using hse
    have HSM2 := HSM.out
    have HOM2 := HOM.out
    rw [hse'] at HSM2
    rw [hse2] at HOM2
    first
    | rw [decide_eq_true hs0] at HOM2
    | rw [decide_eq_false (by omega)] at HOM2
    have HSM3 : Hid _ := HSM2
    have HOM3 : Hid _ := HOM2
    clear HSM2 HOM2 hh HSM HOM hse
    go_wp2_with fail
    refine (strong_any c _).mono ?_
    rintro ev _ ⟨rfl, rfl⟩
    rw [← HSC.out]
    go_wp2
    go_roundg (z - (f + 1) - (m + 1))
    case measure => have := HP.out; omega
    case rel => exact ⟨m + 1, by have := HP.out; omega, rfl, by rw [HSM3.out]; rfl, by rw [HOM3.out]; rfl, by have := HP.out; simp; omega, rfl⟩
  ·have hmE : m = z - (f + 1) := by omega
   subst hmE
   clear hsm hom hlt
   rw [show f + 1 + (z - (f + 1)) = z by omega]
   cases hS : anyF (sameB e) t (f + 1) (z - (f + 1))
   ·cases hO : anyF (otherB e) t (f + 1) (z - (f + 1))
    ·have HV : Hid (q = t) := by show q = t; rw [HQ.out]; unfold pairedL; rw [if_pos ⟨hS, hO⟩]
     clear hS hO
     go_wp2
     refine bodyPost_ret (results_none rfl _ _ _) rfl ?_
     exact ⟨rfl, HV.out ▸ HR1.out, HG1.out⟩
    ·have HV0 : Hid (q = stg orig (lastF sos t f) f z t 2) := by
      show q = _
      have hp : pairD t (f, z) e sos = lastF sos t f := by unfold pairD; rw [if_neg (by rw [hS]; decide)]
      rw [HQ.out]; unfold pairedL; rw [if_neg (by rw [hO]; simp), hp]; rfl
     clear hS hO
     go_wp2
     go_loopg [15, 16] f (fun gk lv iv wl => ∃ m : Nat, m ≤ f ∧ gk = f - m ∧ lv = .int .i64 (lastF sos t m) ∧ iv = .int .i64 m ∧ wl = wr)
     case atStart => exact ⟨0, by omega, rfl, rfl, rfl, rfl⟩
     case round =>
      obtain ⟨m, hm, rfl, rfl, rfl, hw⟩ := hrel
      subst hw
      by_cases hlt : m < f
      ·have hcell := HR1.out.cell m (by omega)
       have hl := show lastF sos t (m + 1) = if strongS (t.getD m 0) < 0 then lastF sos t m else strongS (t.getD m 0) from rfl
       generalize t.getD m 0 = c at hcell hl
       obtain ⟨sc, hsc⟩ : ∃ sc, sc = strongS c := ⟨_, rfl⟩
       rw [← hsc] at hl
       have HSC : Hid (sc = strongS c) := hsc
       clear hsc
       have hmn : m < n := by omega
       rcases Int.lt_or_le sc 0 with hs0 | hs0
       ·have HLS : Hid (lastF sos t (m + 1) = lastF sos t m) := by show _ = _; rw [hl, if_pos hs0]
        clear hl
        go_wp2_with fail
        refine (strong_any c _).mono ?_
        rintro ev _ ⟨rfl, rfl⟩
        rw [← HSC.out]
        go_wp2
        go_roundg (f - (m + 1))
        case measure => omega
        case rel => exact ⟨m + 1, by omega, rfl, by rw [HLS.out], by simp, rfl⟩
       ·have HLS : Hid (lastF sos t (m + 1) = sc) := by show _ = _; rw [hl, if_neg (by omega)]
        clear hl
        go_wp2_with fail
        refine (strong_any c _).mono ?_
        rintro ev _ ⟨rfl, rfl⟩
        rw [← HSC.out]
        go_wp2
        go_roundg (f - (m + 1))
        case measure => omega
        case rel => exact ⟨m + 1, by omega, rfl, by rw [HLS.out], by simp, rfl⟩
      ·obtain rfl : f = m := by omega
       clear hlt
       generalize lastF sos t f = l at *
       by_cases hle : l = e
       ·subst hle
        have HV : Hid (q = stg orig l f z t 2) := HV0.out
        have HR2 : Hid (IRow (wr.alloc (.cells #[.int .i64 f, .int .i64 z] 3)) B g n cap t) := World.ownsRow.alloc HR1.out _
        have HG2 : Hid (w.grownBy (wr.alloc (.cells #[.int .i64 f, .int .i64 z] 3)) (some g)) := HG1.out.trans ⟨rfl, rfl, rfl, by simp, fun k hk _ => Below.heap_alloc wr _ k hk⟩
        have HO2 : Hid (IntsAt (wr.alloc (.cells #[.int .i64 f, .int .i64 z] 3)) go oo orig) := HO1.out.stay ((Below.refl wr.heap.size wr).alloc (Nat.le_refl _) _) (by have := HGO.out.1; have := HC.out; omega)
        have d0 : (wr.alloc (.cells #[.int .i64 f, .int .i64 z] 3)).cell? ⟨wr.heap.size, 0, none⟩ = some (.int .i64 f) := by simp
        have d1 : (wr.alloc (.cells #[.int .i64 f, .int .i64 z] 3)).cell? ⟨wr.heap.size, 1, none⟩ = some (.int .i64 z) := by simp
        have HD : Hid (∀ j : Nat, j < 2 → (wr.alloc (.cells #[.int .i64 f, .int .i64 z] 3)).cell? ⟨wr.heap.size, j, none⟩ = some (.int .i64 (kOf f z j : Nat))) := by
         intro j hj
         match j, hj with
         | 0, _ => exact d0
         | 1, _ => exact d1
        have HSz : Hid (wr.heap.size < (wr.alloc (.cells #[.int .i64 f, .int .i64 z] 3)).heap.size ∧ wr.heap.size ≠ g ∧ go < (wr.alloc (.cells #[.int .i64 f, .int .i64 z] 3)).heap.size ∧ go ≠ g) := by
         have h1 := HGO.out; have h2 := HC.out; have h3 := HBg.out
         exact ⟨by simp, by omega, by simp; omega, h1.2⟩
        clear d0 d1
        go_wp2
        generalize wr.alloc (.cells #[.int .i64 f, .int .i64 z] 3) = W2 at *
        generalize wr.heap.size = h2 at *
        go_loopg [85] 2 (fun gk iv wr => ∃ (j : Nat) (t' : List Int), j ≤ 2 ∧ gk = 2 - j ∧ iv = .int .i64 j ∧ IRow wr B g n cap t' ∧ W2.grownBy wr (some g) ∧ t' = stg orig l f z t j)
        case atStart => exact ⟨0, t, by omega, rfl, rfl, HR2.out, World.grownBy.refl _ _, rfl⟩
        case round =>
         clear HR1 HO1 HG1 c0 c1
         obtain ⟨j, t', hj2, rfl, rfl, hI, hG, hE⟩ := hrel
         have HI : Hid (IRow wr B g n cap t') := hI
         have HG : Hid (W2.grownBy wr (some g)) := hG
         have HE : Hid (t' = stg orig l f z t j) := hE
         clear hE
         by_cases hj : j < 2
         ·have hk := HD.out j hj
          rw [← grown_cell hG HSz.out.1 HSz.out.2.1] at hk
          have hkk : kOf f z j < n := kOf_lt hfz hz j
          have HST : Hid (stg orig l f z t (j + 1) = setBr orig l (kOf f z j) (stg orig l f z t j)) := stg_next orig l f z t j hj
          generalize kOf f z j = kk at *
          have hcell := hI.cell kk hkk
          have hfr := hI.frozen kk
          generalize t'.getD kk 0 = cc at hcell
          clear hI hG
          go_wp2
          rw [decide_eq_true (show ((j : Int) < 2) by omega)]
          go_loopg [20] (n - (kk + 1)) (fun gk iv wi => ∃ m : Nat, kk + 1 + m ≤ n ∧ gk = n - (kk + 1 + m) ∧ iv = .int .i64 ((kk + 1 + m : Nat) : Int) ∧ IRow wi B g n cap (fillV t' kk l (1 + m)) ∧ W2.grownBy wi (some g) ∧ nsm (orig.drop (kk + 1)) = m + nsm (orig.drop (kk + 1 + m)))
          case atStart => exact ⟨0, by omega, rfl, by simp, HI.out.set kk l, HG.out.trans (HI.out.grown kk l), by simp⟩
          case round =>
           obtain ⟨m, hm, rfl, rfl, hIi, hGi, hN⟩ := hrel
           have HIi : Hid (IRow wr B g n cap (fillV t' kk l (1 + m))) := hIi
           have HGi : Hid (W2.grownBy wr (some g)) := hGi
           have HN : Hid (nsm (orig.drop (kk + 1)) = m + nsm (orig.drop (kk + 1 + m))) := hN
           clear HI HG hcell hfr hk
           by_cases hlt2 : kk + 1 + m < n
           ·have ho := HO2.out (kk + 1 + m) (by rw [HOL.out]; exact hlt2)
            rw [← grown_cell hGi HSz.out.2.2.1 HSz.out.2.2.2] at ho
            have hnm := nsm_more (l := orig) (m := kk + 1 + m) (by rw [HOL.out]; exact hlt2)
            have hcq := hIi.cell (kk + 1 + m) hlt2
            have hfq := hIi.frozen (kk + 1 + m)
            generalize (fillV t' kk l (1 + m)).getD (kk + 1 + m) 0 = cq at hcq
            generalize orig.getD (kk + 1 + m) 0 = oc at ho hnm
            have HNM : Hid (nsm (orig.drop (kk + 1 + m)) = if oc = 8 then nsm (orig.drop (kk + 1 + m + 1)) + 1 else 0) := hnm
            clear hIi hGi hN hnm
            obtain ⟨p, hp⟩ : ∃ p, p = kk + 1 + m := ⟨_, rfl⟩
            have HP : Hid (p = kk + 1 + m) := hp
            rw [← hp] at ho hcq hfq hlt2 ⊢
            clear hp
            by_cases h8 : oc = 8
            ·subst h8
             go_wp2
             go_roundg (n - (kk + 1 + (m + 1)))
             case measure => have := HP.out; omega
             case rel =>
              refine ⟨m + 1, by have := HP.out; omega, rfl, by have := HP.out; simp; omega, ?_, HGi.out.trans (HIi.out.grown p l), ?_⟩
              ·have h1 := HIi.out.set p l
               rw [HP.out, show kk + 1 + m = kk + (1 + m) by omega] at h1
               rw [HP.out, show kk + 1 + m = kk + (1 + m) by omega, show 1 + (m + 1) = (1 + m) + 1 by omega]
               exact h1
              ·have h1 := HNM.out
               simp only [if_true] at h1
               rw [HN.out, h1, show kk + 1 + (m + 1) = kk + 1 + m + 1 by omega]; omega
            ·have q8 : (oc == 8) = false := by simpa using h8
             have HF : Hid (fillV t' kk l (1 + m) = stg orig l f z t (j + 1)) := by
              show _ = _
              rw [HST.out, ← HE.out, setBr, HN.out, HNM.out, if_neg h8, Nat.add_zero]
             clear h8
             go_wp2
             go_roundg (2 - (j + 1))
             case measure => omega
             case rel => exact ⟨j + 1, _, by omega, rfl, by simp, HF.out ▸ HIi.out, HGi.out, rfl⟩
           ·have HF : Hid (fillV t' kk l (1 + m) = stg orig l f z t (j + 1)) := by
             show _ = _
             rw [HST.out, ← HE.out, setBr, HN.out, nsm_end (by rw [HOL.out]; exact hlt2), Nat.add_zero]
            clear hIi hGi hN
            obtain ⟨p, hp⟩ : ∃ p, p = kk + 1 + m := ⟨_, rfl⟩
            rw [← hp] at hlt2 ⊢
            have hpn : p = n := by omega
            clear hp
            subst hpn
            go_wp2
            go_roundg (2 - (j + 1))
            case measure => omega
            case rel => exact ⟨j + 1, _, by omega, rfl, by simp, HF.out ▸ HIi.out, HGi.out, rfl⟩
         ·obtain rfl : j = 2 := by omega
          clear hI hG
          go_wp2
          go_end0
          refine ⟨rfl, ?_, HG2.out.trans HG.out⟩
          rw [HV.out]
          exact HE.out ▸ HI.out
       ·have hle' : (l != e) = true := by simpa using hle
        have HV : Hid (q = stg orig l f z t 2) := HV0.out
        clear hle
        have HR2 : Hid (IRow (wr.alloc (.cells #[.int .i64 f, .int .i64 z] 3)) B g n cap t) := World.ownsRow.alloc HR1.out _
        have HG2 : Hid (w.grownBy (wr.alloc (.cells #[.int .i64 f, .int .i64 z] 3)) (some g)) := HG1.out.trans ⟨rfl, rfl, rfl, by simp, fun k hk _ => Below.heap_alloc wr _ k hk⟩
        have HO2 : Hid (IntsAt (wr.alloc (.cells #[.int .i64 f, .int .i64 z] 3)) go oo orig) := HO1.out.stay ((Below.refl wr.heap.size wr).alloc (Nat.le_refl _) _) (by have := HGO.out.1; have := HC.out; omega)
        have d0 : (wr.alloc (.cells #[.int .i64 f, .int .i64 z] 3)).cell? ⟨wr.heap.size, 0, none⟩ = some (.int .i64 f) := by simp
        have d1 : (wr.alloc (.cells #[.int .i64 f, .int .i64 z] 3)).cell? ⟨wr.heap.size, 1, none⟩ = some (.int .i64 z) := by simp
        have HD : Hid (∀ j : Nat, j < 2 → (wr.alloc (.cells #[.int .i64 f, .int .i64 z] 3)).cell? ⟨wr.heap.size, j, none⟩ = some (.int .i64 (kOf f z j : Nat))) := by
         intro j hj
         match j, hj with
         | 0, _ => exact d0
         | 1, _ => exact d1
        have HSz : Hid (wr.heap.size < (wr.alloc (.cells #[.int .i64 f, .int .i64 z] 3)).heap.size ∧ wr.heap.size ≠ g ∧ go < (wr.alloc (.cells #[.int .i64 f, .int .i64 z] 3)).heap.size ∧ go ≠ g) := by
         have h1 := HGO.out; have h2 := HC.out; have h3 := HBg.out
         exact ⟨by simp, by omega, by simp; omega, h1.2⟩
        clear d0 d1
        go_wp2
        generalize wr.alloc (.cells #[.int .i64 f, .int .i64 z] 3) = W2 at *
        generalize wr.heap.size = h2 at *
        go_loopg [85] 2 (fun gk iv wr => ∃ (j : Nat) (t' : List Int), j ≤ 2 ∧ gk = 2 - j ∧ iv = .int .i64 j ∧ IRow wr B g n cap t' ∧ W2.grownBy wr (some g) ∧ t' = stg orig l f z t j)
        case atStart => exact ⟨0, t, by omega, rfl, rfl, HR2.out, World.grownBy.refl _ _, rfl⟩
        case round =>
         clear HR1 HO1 HG1 c0 c1
         obtain ⟨j, t', hj2, rfl, rfl, hI, hG, hE⟩ := hrel
         have HI : Hid (IRow wr B g n cap t') := hI
         have HG : Hid (W2.grownBy wr (some g)) := hG
         have HE : Hid (t' = stg orig l f z t j) := hE
         clear hE
         by_cases hj : j < 2
         ·have hk := HD.out j hj
          rw [← grown_cell hG HSz.out.1 HSz.out.2.1] at hk
          have hkk : kOf f z j < n := kOf_lt hfz hz j
          have HST : Hid (stg orig l f z t (j + 1) = setBr orig l (kOf f z j) (stg orig l f z t j)) := stg_next orig l f z t j hj
          generalize kOf f z j = kk at *
          have hcell := hI.cell kk hkk
          have hfr := hI.frozen kk
          generalize t'.getD kk 0 = cc at hcell
          clear hI hG
          go_wp2
          rw [decide_eq_true (show ((j : Int) < 2) by omega)]
          go_loopg [20] (n - (kk + 1)) (fun gk iv wi => ∃ m : Nat, kk + 1 + m ≤ n ∧ gk = n - (kk + 1 + m) ∧ iv = .int .i64 ((kk + 1 + m : Nat) : Int) ∧ IRow wi B g n cap (fillV t' kk l (1 + m)) ∧ W2.grownBy wi (some g) ∧ nsm (orig.drop (kk + 1)) = m + nsm (orig.drop (kk + 1 + m)))
          case atStart => exact ⟨0, by omega, rfl, by simp, HI.out.set kk l, HG.out.trans (HI.out.grown kk l), by simp⟩
          case round =>
           obtain ⟨m, hm, rfl, rfl, hIi, hGi, hN⟩ := hrel
           have HIi : Hid (IRow wr B g n cap (fillV t' kk l (1 + m))) := hIi
           have HGi : Hid (W2.grownBy wr (some g)) := hGi
           have HN : Hid (nsm (orig.drop (kk + 1)) = m + nsm (orig.drop (kk + 1 + m))) := hN
           clear HI HG hcell hfr hk
           by_cases hlt2 : kk + 1 + m < n
           ·have ho := HO2.out (kk + 1 + m) (by rw [HOL.out]; exact hlt2)
            rw [← grown_cell hGi HSz.out.2.2.1 HSz.out.2.2.2] at ho
            have hnm := nsm_more (l := orig) (m := kk + 1 + m) (by rw [HOL.out]; exact hlt2)
            have hcq := hIi.cell (kk + 1 + m) hlt2
            have hfq := hIi.frozen (kk + 1 + m)
            generalize (fillV t' kk l (1 + m)).getD (kk + 1 + m) 0 = cq at hcq
            generalize orig.getD (kk + 1 + m) 0 = oc at ho hnm
            have HNM : Hid (nsm (orig.drop (kk + 1 + m)) = if oc = 8 then nsm (orig.drop (kk + 1 + m + 1)) + 1 else 0) := hnm
            clear hIi hGi hN hnm
            obtain ⟨p, hp⟩ : ∃ p, p = kk + 1 + m := ⟨_, rfl⟩
            have HP : Hid (p = kk + 1 + m) := hp
            rw [← hp] at ho hcq hfq hlt2 ⊢
            clear hp
            by_cases h8 : oc = 8
            ·subst h8
             go_wp2
             go_roundg (n - (kk + 1 + (m + 1)))
             case measure => have := HP.out; omega
             case rel =>
              refine ⟨m + 1, by have := HP.out; omega, rfl, by have := HP.out; simp; omega, ?_, HGi.out.trans (HIi.out.grown p l), ?_⟩
              ·have h1 := HIi.out.set p l
               rw [HP.out, show kk + 1 + m = kk + (1 + m) by omega] at h1
               rw [HP.out, show kk + 1 + m = kk + (1 + m) by omega, show 1 + (m + 1) = (1 + m) + 1 by omega]
               exact h1
              ·have h1 := HNM.out
               simp only [if_true] at h1
               rw [HN.out, h1, show kk + 1 + (m + 1) = kk + 1 + m + 1 by omega]; omega
            ·have q8 : (oc == 8) = false := by simpa using h8
             have HF : Hid (fillV t' kk l (1 + m) = stg orig l f z t (j + 1)) := by
              show _ = _
              rw [HST.out, ← HE.out, setBr, HN.out, HNM.out, if_neg h8, Nat.add_zero]
             clear h8
             go_wp2
             go_roundg (2 - (j + 1))
             case measure => omega
             case rel => exact ⟨j + 1, _, by omega, rfl, by simp, HF.out ▸ HIi.out, HGi.out, rfl⟩
           ·have HF : Hid (fillV t' kk l (1 + m) = stg orig l f z t (j + 1)) := by
             show _ = _
             rw [HST.out, ← HE.out, setBr, HN.out, nsm_end (by rw [HOL.out]; exact hlt2), Nat.add_zero]
            clear hIi hGi hN
            obtain ⟨p, hp⟩ : ∃ p, p = kk + 1 + m := ⟨_, rfl⟩
            rw [← hp] at hlt2 ⊢
            have hpn : p = n := by omega
            clear hp
            subst hpn
            go_wp2
            go_roundg (2 - (j + 1))
            case measure => omega
            case rel => exact ⟨j + 1, _, by omega, rfl, by simp, HF.out ▸ HIi.out, HGi.out, rfl⟩
         ·obtain rfl : j = 2 := by omega
          clear hI hG
          go_wp2
          go_end0
          refine ⟨rfl, ?_, HG2.out.trans HG.out⟩
          rw [HV.out]
          exact HE.out ▸ HI.out
   ·have HV : Hid (q = stg orig e f z t 2) := by
     show q = _
     have hp : pairD t (f, z) e sos = e := by unfold pairD; rw [if_pos hS]
     rw [HQ.out]; unfold pairedL; rw [if_neg (by rw [hS]; simp), hp]; rfl
    clear hS
    have HR2 : Hid (IRow (wr.alloc (.cells #[.int .i64 f, .int .i64 z] 3)) B g n cap t) := World.ownsRow.alloc HR1.out _
    have HG2 : Hid (w.grownBy (wr.alloc (.cells #[.int .i64 f, .int .i64 z] 3)) (some g)) := HG1.out.trans ⟨rfl, rfl, rfl, by simp, fun k hk _ => Below.heap_alloc wr _ k hk⟩
    have HO2 : Hid (IntsAt (wr.alloc (.cells #[.int .i64 f, .int .i64 z] 3)) go oo orig) := HO1.out.stay ((Below.refl wr.heap.size wr).alloc (Nat.le_refl _) _) (by have := HGO.out.1; have := HC.out; omega)
    have d0 : (wr.alloc (.cells #[.int .i64 f, .int .i64 z] 3)).cell? ⟨wr.heap.size, 0, none⟩ = some (.int .i64 f) := by simp
    have d1 : (wr.alloc (.cells #[.int .i64 f, .int .i64 z] 3)).cell? ⟨wr.heap.size, 1, none⟩ = some (.int .i64 z) := by simp
    have HD : Hid (∀ j : Nat, j < 2 → (wr.alloc (.cells #[.int .i64 f, .int .i64 z] 3)).cell? ⟨wr.heap.size, j, none⟩ = some (.int .i64 (kOf f z j : Nat))) := by
     intro j hj
     match j, hj with
     | 0, _ => exact d0
     | 1, _ => exact d1
    have HSz : Hid (wr.heap.size < (wr.alloc (.cells #[.int .i64 f, .int .i64 z] 3)).heap.size ∧ wr.heap.size ≠ g ∧ go < (wr.alloc (.cells #[.int .i64 f, .int .i64 z] 3)).heap.size ∧ go ≠ g) := by
     have h1 := HGO.out; have h2 := HC.out; have h3 := HBg.out
     exact ⟨by simp, by omega, by simp; omega, h1.2⟩
    clear d0 d1
    go_wp2
    generalize wr.alloc (.cells #[.int .i64 f, .int .i64 z] 3) = W2 at *
    generalize wr.heap.size = h2 at *
    go_loopg [85] 2 (fun gk iv wr => ∃ (j : Nat) (t' : List Int), j ≤ 2 ∧ gk = 2 - j ∧ iv = .int .i64 j ∧ IRow wr B g n cap t' ∧ W2.grownBy wr (some g) ∧ t' = stg orig e f z t j)
    case atStart => exact ⟨0, t, by omega, rfl, rfl, HR2.out, World.grownBy.refl _ _, rfl⟩
    case round =>
     clear HR1 HO1 HG1 c0 c1
     obtain ⟨j, t', hj2, rfl, rfl, hI, hG, hE⟩ := hrel
     have HI : Hid (IRow wr B g n cap t') := hI
     have HG : Hid (W2.grownBy wr (some g)) := hG
     have HE : Hid (t' = stg orig e f z t j) := hE
     clear hE
     by_cases hj : j < 2
     ·have hk := HD.out j hj
      rw [← grown_cell hG HSz.out.1 HSz.out.2.1] at hk
      have hkk : kOf f z j < n := kOf_lt hfz hz j
      have HST : Hid (stg orig e f z t (j + 1) = setBr orig e (kOf f z j) (stg orig e f z t j)) := stg_next orig e f z t j hj
      generalize kOf f z j = kk at *
      have hcell := hI.cell kk hkk
      have hfr := hI.frozen kk
      generalize t'.getD kk 0 = cc at hcell
      clear hI hG
      go_wp2
      rw [decide_eq_true (show ((j : Int) < 2) by omega)]
      go_loopg [20] (n - (kk + 1)) (fun gk iv wi => ∃ m : Nat, kk + 1 + m ≤ n ∧ gk = n - (kk + 1 + m) ∧ iv = .int .i64 ((kk + 1 + m : Nat) : Int) ∧ IRow wi B g n cap (fillV t' kk e (1 + m)) ∧ W2.grownBy wi (some g) ∧ nsm (orig.drop (kk + 1)) = m + nsm (orig.drop (kk + 1 + m)))
      case atStart => exact ⟨0, by omega, rfl, by simp, HI.out.set kk e, HG.out.trans (HI.out.grown kk e), by simp⟩
      case round =>
       obtain ⟨m, hm, rfl, rfl, hIi, hGi, hN⟩ := hrel
       have HIi : Hid (IRow wr B g n cap (fillV t' kk e (1 + m))) := hIi
       have HGi : Hid (W2.grownBy wr (some g)) := hGi
       have HN : Hid (nsm (orig.drop (kk + 1)) = m + nsm (orig.drop (kk + 1 + m))) := hN
       clear HI HG hcell hfr hk
       by_cases hlt2 : kk + 1 + m < n
       ·have ho := HO2.out (kk + 1 + m) (by rw [HOL.out]; exact hlt2)
        rw [← grown_cell hGi HSz.out.2.2.1 HSz.out.2.2.2] at ho
        have hnm := nsm_more (l := orig) (m := kk + 1 + m) (by rw [HOL.out]; exact hlt2)
        have hcq := hIi.cell (kk + 1 + m) hlt2
        have hfq := hIi.frozen (kk + 1 + m)
        generalize (fillV t' kk e (1 + m)).getD (kk + 1 + m) 0 = cq at hcq
        generalize orig.getD (kk + 1 + m) 0 = oc at ho hnm
        have HNM : Hid (nsm (orig.drop (kk + 1 + m)) = if oc = 8 then nsm (orig.drop (kk + 1 + m + 1)) + 1 else 0) := hnm
        clear hIi hGi hN hnm
        obtain ⟨p, hp⟩ : ∃ p, p = kk + 1 + m := ⟨_, rfl⟩
        have HP : Hid (p = kk + 1 + m) := hp
        rw [← hp] at ho hcq hfq hlt2 ⊢
        clear hp
        by_cases h8 : oc = 8
        ·subst h8
         go_wp2
         go_roundg (n - (kk + 1 + (m + 1)))
         case measure => have := HP.out; omega
         case rel =>
          refine ⟨m + 1, by have := HP.out; omega, rfl, by have := HP.out; simp; omega, ?_, HGi.out.trans (HIi.out.grown p e), ?_⟩
          ·have h1 := HIi.out.set p e
           rw [HP.out, show kk + 1 + m = kk + (1 + m) by omega] at h1
           rw [HP.out, show kk + 1 + m = kk + (1 + m) by omega, show 1 + (m + 1) = (1 + m) + 1 by omega]
           exact h1
          ·have h1 := HNM.out
           simp only [if_true] at h1
           rw [HN.out, h1, show kk + 1 + (m + 1) = kk + 1 + m + 1 by omega]; omega
        ·have q8 : (oc == 8) = false := by simpa using h8
         have HF : Hid (fillV t' kk e (1 + m) = stg orig e f z t (j + 1)) := by
          show _ = _
          rw [HST.out, ← HE.out, setBr, HN.out, HNM.out, if_neg h8, Nat.add_zero]
         clear h8
         go_wp2
         go_roundg (2 - (j + 1))
         case measure => omega
         case rel => exact ⟨j + 1, _, by omega, rfl, by simp, HF.out ▸ HIi.out, HGi.out, rfl⟩
       ·have HF : Hid (fillV t' kk e (1 + m) = stg orig e f z t (j + 1)) := by
         show _ = _
         rw [HST.out, ← HE.out, setBr, HN.out, nsm_end (by rw [HOL.out]; exact hlt2), Nat.add_zero]
        clear hIi hGi hN
        obtain ⟨p, hp⟩ : ∃ p, p = kk + 1 + m := ⟨_, rfl⟩
        rw [← hp] at hlt2 ⊢
        have hpn : p = n := by omega
        clear hp
        subst hpn
        go_wp2
        go_roundg (2 - (j + 1))
        case measure => omega
        case rel => exact ⟨j + 1, _, by omega, rfl, by simp, HF.out ▸ HIi.out, HGi.out, rfl⟩
     ·obtain rfl : j = 2 := by omega
      clear hI hG
      go_wp2
      go_end0
      refine ⟨rfl, ?_, HG2.out.trans HG.out⟩
      rw [HV.out]
      exact HE.out ▸ HI.out
end Go.Proofs.YtkbinfhclaafhaaGreatDoor
namespace Go.Proofs.YtkbinfhclaafhaaGreatDoor
open Go.RowKit
theorem own_form {w : World} {B : Nat} {e : TypeId} {z n : Nat} {v : Value} {xs : List Value} (h : w.ownsRow B e z v n xs) : ∃ a cap, v = .slice a n cap := by
 rcases h.2 with ⟨rfl, rfl⟩ | ⟨g, cap, cur, rfl, _⟩
 ·exact ⟨none, 0, rfl⟩
 ·exact ⟨_, cap, rfl⟩
theorem own_some {w : World} {B : Nat} {e : TypeId} {z n : Nat} {v : Value} {xs : List Value} (h : w.ownsRow B e z v n xs) (hn : 0 < n) : ∃ g cap, v = .slice (some ⟨g, 0, none⟩) n cap ∧ n ≤ cap ∧ g < w.heap.size ∧ B ≤ g := by
 rcases h.2 with ⟨rfl, rfl⟩ | ⟨g, cap, cur, rfl, hb, hh, hc, _⟩
 ·omega
 ·refine ⟨g, cap, rfl, hc, ?_, hb⟩
  rcases Nat.lt_or_ge g w.heap.size with h' | h'
  ·exact h'
  ·rw [Array.getElem?_eq_none h'] at hh; cases hh
theorem heap_lt {w : World} {k : Nat} {o : Obj} (h : w.heap[k]? = some o) : k < w.heap.size := by
 rcases Nat.lt_or_ge k w.heap.size with h' | h'
 ·exact h'
 ·rw [Array.getElem?_eq_none h'] at h; cases h
theorem own_grown {w w' : World} {B : Nat} {e : TypeId} {z n : Nat} {v : Value} {xs : List Value} {r : Option Nat} (h : w.ownsRow B e z v n xs) (hg : w.grownBy w' r) (hne : v.ownBlock = none ∨ v.ownBlock ≠ r) : w'.ownsRow B e z v n xs :=
 ownsRow_blocks h fun k o hk ho => by
  rw [hg.block k (heap_lt ho) ?_]
  ·exact ho
  ·rw [hk] at hne
   rcases hne with hne | hne
   ·cases hne
   ·exact hne
theorem own_below {w w' : World} {B : Nat} {e : TypeId} {z n : Nat} {v : Value} {xs : List Value} (h : w.ownsRow B e z v n xs) (hb : Below w.heap.size w w') : w'.ownsRow B e z v n xs :=
 ownsRow_blocks h fun k o _ ho => by rw [hb.block k (heap_lt ho)]; exact ho
theorem own_types {w : World} {B B' : Nat} {e e' : TypeId} {z z' n n' : Nat} {v v' : Value} {xs xs' : List Value} (h : w.ownsRow B e z v n xs) (h' : w.ownsRow B' e' z' v' n' xs') (he : e ≠ e') : v.ownBlock = none ∨ v.ownBlock ≠ v'.ownBlock := by
 rcases h.2 with ⟨rfl, _⟩ | ⟨g, cap, cur, rfl, _, hh, _⟩
 ·exact .inl rfl
 ·rcases h'.2 with ⟨rfl, _⟩ | ⟨g', cap', cur', rfl, _, hh', _⟩
  ·exact .inr (by simp [Value.ownBlock])
  ·refine .inr ?_
   simp only [Value.ownBlock]
   intro e1
   obtain rfl := Option.some.inj e1
   rw [hh] at hh'
   simp at hh'
   exact he hh'.2
theorem own_take {w : World} {B : Nat} {e : TypeId} {z n g cap : Nat} {xs : List Value} (h : w.ownsRow B e z (.slice (some ⟨g, 0, none⟩) n cap) n xs) (k : Nat) (hk : k ≤ n) : w.ownsRow B e z (.slice (some ⟨g, 0, none⟩) k cap) k (xs.take (k * z)) := by
 obtain ⟨h1, h2⟩ := h
 have hkz : k * z ≤ n * z := Nat.mul_le_mul_right z hk
 refine ⟨by rw [List.length_take]; omega, ?_⟩
 rcases h2 with ⟨h, _⟩ | ⟨g', cap', cur, e1, h3, h4, h5, h6, h7, h8⟩
 ·cases h
 ·cases e1
  refine .inr ⟨g, cap, cur, rfl, h3, h4, by omega, h6, h7, ?_⟩
  rw [← h8, List.take_take, Nat.min_eq_left hkz]
theorem own_low {w : World} {B : Nat} {e : TypeId} {z n : Nat} {v : Value} {xs : List Value} (h : w.ownsRow B e z v n xs) : ∀ k, v.ownBlock = some k → B ≤ k := fun k hk => (h.lt k hk).1
def nl (l : List Nat) : List Int := l.map Int.ofNat
theorem nl_length (l : List Nat) : (nl l).length = l.length := by simp [nl]
theorem nl_getD (l : List Nat) (k : Nat) (h : k < l.length) : (nl l).getD k 0 = (l.getD k 0 : Nat) := by simp [nl, List.getD_eq_getElem?_getD, List.getElem?_eq_getElem h]
theorem iv_length (l : List Int) : (iv l).length = l.length := by simp [iv]
theorem own_icell {w : World} {B g n cap : Nat} {e : TypeId} {l : List Int} (h : w.ownsRow B e 1 (.slice (some ⟨g, 0, none⟩) n cap) n (iv l)) (k : Nat) (hk : k < l.length) : w.cell? ⟨g, k, none⟩ = some (.int .i64 (l.getD k 0)) := by
 rw [World.ownsRow.cellAt h k (by have := h.1; rw [iv_length] at this; omega)]
 simp [iv, List.getD_eq_getElem?_getD, List.getElem?_eq_getElem hk]
theorem iv_snoc (l : List Int) (a : Int) : iv l ++ [.int .i64 a] = iv (l ++ [a]) := by simp [iv]
theorem nl_snoc (l : List Nat) (a : Nat) : nl l ++ [(a : Int)] = nl (l ++ [a]) := by simp [nl]
theorem iv_take (l : List Nat) (k : Nat) : (iv (nl l)).take (k * 1) = iv (nl (l.take k)) := by simp [iv, nl, List.map_take]
theorem wpList_pushP {P : Program} (w : World) {ops : Array Oper} {rest : List Oper} {o : Oper} {a : Act} {Q : Exit → Act → World → Prop} (hgd : o.guard = none) (s x : Operand) (t : TypeId)
  (ho : o.op = .call { callee := .builtin .append, args := #[s, x], argTypes := #[t, t] })
  (base : Nat) (e : TypeId) (i : TypeInfo) (z : Value) (bytes : Nat) (ht : P.underlying t = some (.slice e)) (hi : P.info? e = some i) (hz : i.zero = some z)
  (hsize : i.size = 2) (hby : i.bytes = bytes) (hzs : z.cells.size = 2) (hb64 : bytes ≤ 64)
  (v : Value) (n : Nat) (xs : List Value) (hs : a.eval s = v) (hown : w.ownsRow base e 2 v n xs)
  (y0 y1 : Value) (e' : TypeId) (k : Nat) (hx : a.eval x = .slice (some ⟨k, 0, none⟩) 1 1) (hk : k = w.heap.size) (h0 : y0.oneCell' = true) (h1 : y1.oneCell' = true) (hn : n ≤ 1000000) (hbase : base ≤ w.heap.size)
  (h : ∀ v' w', w'.ownsRow base e 2 v' (n + 1) (xs ++ [y0, y1]) → w.grownBy w' v.ownBlock → wpList P ops Q rest (a.put o.dst v') w') : wpList P ops Q (o :: rest) a (w.alloc (.cells #[y0, y1] e')) := by
 subst hk
 refine wpList_append_own _ hgd s x t ho base e i z 2 bytes ht hi hz hsize hby hzs (by decide) v n xs hs (hown.alloc _) ⟨w.heap.size, 0, none⟩ 1 1 [y0, y1] hx rfl ?_ ?_ ?_ ?_ ?_ ?_
 ·intro j u hj
  match j, hj with
  | 0, hj => simp at hj; subst hj; simp [Addr.add]
  | 1, hj => simp at hj; subst hj; simp [Addr.add]
 ·intro u hu; simp at hu; rcases hu with rfl | rfl
  ·exact h0
  ·exact h1
 ·unfold maxLen; omega
 ·have : (n + 1) * bytes ≤ 1000001 * 64 := Nat.mul_le_mul (by omega) hb64
  omega
 ·simp; omega
 ·intro v' w' h2 h3 _
  refine h v' w' h2 ⟨h3.os, h3.tape, h3.output, ?_, fun k hk hne => ?_⟩
  ·have := h3.size; simp at this; omega
  ·rw [h3.block k (by simp; omega) hne]
   exact Below.heap_alloc w _ k hk
def pairsV (l : List (Nat × Nat)) : List Value := l.flatMap fun p => [.int .i64 (p.1 : Nat), .int .i64 (p.2 : Nat)]
theorem pairsV_length (l : List (Nat × Nat)) : (pairsV l).length = l.length * 2 := by
 induction l with
 | nil => rfl
 | cons a r ih => simp only [pairsV, List.flatMap_cons, List.length_append] at ih ⊢; rw [ih]; simp; omega
theorem pairsV_snoc (l : List (Nat × Nat)) (p : Nat × Nat) : pairsV l ++ [.int .i64 (p.1 : Nat), .int .i64 (p.2 : Nat)] = pairsV (l ++ [p]) := by simp [pairsV]
structure PSt (w0 w : World) (B : Nat) (sv ov : Value) (x : List Nat × List (Nat × Nat)) : Prop where
 below : Below B w0 w
 st : w.ownsRow B 3 1 sv x.1.length (iv (nl x.1))
 out : w.ownsRow B 194 2 ov x.2.length (pairsV x.2)
 base : B ≤ w.heap.size
theorem PSt.call {w0 w w' : World} {B : Nat} {sv ov : Value} {x : List Nat × List (Nat × Nat)} (h : PSt w0 w B sv ov x) (hb : Below w.heap.size w w') : PSt w0 w' B sv ov x :=
 ⟨h.below.trans (hb.mono h.base), own_below h.st hb, own_below h.out hb, Nat.le_trans h.base hb.size⟩
theorem PSt.start (w : World) : PSt w w w.heap.size (.slice none 0 0) (.slice none 0 0) ([], []) :=
 ⟨Below.refl _ _, ⟨rfl, .inl ⟨rfl, rfl⟩⟩, ⟨rfl, .inl ⟨rfl, rfl⟩⟩, Nat.le_refl _⟩
theorem PSt.push {w0 w w' : World} {B : Nat} {sv ov sv' : Value} {x : List Nat × List (Nat × Nat)} {i : Nat} (h : PSt w0 w B sv ov x) (hr : w'.ownsRow B 3 1 sv' (x.1.length + 1) (iv (nl x.1) ++ [.int .i64 (i : Nat)])) (hg : w.grownBy w' sv.ownBlock) : PSt w0 w' B sv' ov (x.1 ++ [i], x.2) :=
 ⟨h.below.grown hg h.base (own_low h.st), by rw [iv_snoc, nl_snoc] at hr; simpa using hr, own_grown h.out hg (own_types h.out h.st (by decide)), Nat.le_trans h.base hg.size⟩
theorem PSt.pair {w0 w w' : World} {B g cap : Nat} {ov ov' : Value} {x : List Nat × List (Nat × Nat)} {i m : Nat} (h : PSt w0 w B (.slice (some ⟨g, 0, none⟩) x.1.length cap) ov x) (hm : m < x.1.length)
  (hr : w'.ownsRow B 194 2 ov' (x.2.length + 1) (pairsV x.2 ++ [.int .i64 (x.1.getD m 0 : Nat), .int .i64 (i : Nat)])) (hg : w.grownBy w' ov.ownBlock) : PSt w0 w' B (.slice (some ⟨g, 0, none⟩) m cap) ov' (x.1.take m, x.2 ++ [(x.1.getD m 0, i)]) := by
 have h1 := own_grown h.st hg (own_types h.st h.out (by decide))
 have h2 := own_take h1 m (by omega)
 rw [iv_take] at h2
 refine ⟨h.below.grown hg h.base (own_low h.out), by simpa [Nat.min_eq_left (Nat.le_of_lt hm)] using h2, ?_, Nat.le_trans h.base hg.size⟩
 rw [pairsV_snoc x.2 (x.1.getD m 0, i)] at hr
 simpa using hr
end Go.Proofs.YtkbinfhclaafhaaGreatDoor
namespace Go.Proofs.YtkbinfhclaafhaaGreatDoor
def runStep (lv : List Int) (lf : List Bool) (i : Nat) (x : List (List Nat) × List Nat) : List (List Nat) × List Nat :=
 if lf.getD i false = false then x
 else if x.2 ≠ [] ∧ lv.getD (x.2.headD 0) 0 ≠ lv.getD i 0 then (x.1 ++ [x.2], [i]) else (x.1, x.2 ++ [i])
def runEnd (x : List (List Nat) × List Nat) : List (List Nat) := if x.2 = [] then x.1 else x.1 ++ [x.2]
def runsF (lv : List Int) (lf : List Bool) : Nat → Nat → List (List Nat) × List Nat → List (List Nat)
 | 0, _, x => runEnd x
 | n + 1, i, x => runsF lv lf n (i + 1) (runStep lv lf i x)
def runsL (lv : List Int) (lf : List Bool) : List (List Nat) := runsF lv lf lv.length 0 ([], [])
def nextK (rs : List (List Nat)) (m : Nat) : Nat → Option Nat
 | 0 => none
 | k + 1 => if (rs.getD k []).headD 0 = m then some k else nextK rs m k
def nextRun (cs : List Int) (rs : List (List Nat)) (last : Nat) : Option Nat := if isoB (cs.getD last 0) = true then nextK rs (mt cs last) rs.length else none
def chainF (cs : List Int) (rs : List (List Nat)) : Nat → List Nat → List Nat
 | 0, at' => at'
 |f + 1, at' => match nextRun cs rs (at'.getLastD 0) with
  | none => at'
  | some k => chainF cs rs f (at' ++ rs.getD k [])
structure Sq where
 at' : List Nat
 level : Int
 sos : Int
 eos : Int
def befF (lv : List Int) (lf : List Bool) (para : Int) : Nat → Int
 | 0 => para
 | k + 1 => if lf.getD k false = true then lv.getD k 0 else befF lv lf para k
def behF (lv : List Int) (lf : List Bool) (para : Int) (len : Nat) : Nat → Int
 | 0 => para
 | m + 1 => if lf.getD (len - (m + 1)) false = true then lv.getD (len - (m + 1)) 0 else behF lv lf para len m
def behS (cs lv : List Int) (lf : List Bool) (para : Int) (last : Nat) : Int := if isoB (cs.getD last 0) = true ∧ mt cs last = cs.length then para else behF lv lf para cs.length (cs.length - (last + 1))
def endedS (cs lv : List Int) (lf : List Bool) (para : Int) (at' : List Nat) : Sq :=
 ⟨at', lv.getD (at'.headD 0) 0, sideS (lv.getD (at'.headD 0) 0) (befF lv lf para (at'.headD 0)), sideS (lv.getD (at'.headD 0) 0) (behS cs lv lf para (at'.getLastD 0))⟩
def begsB (cs : List Int) (r : List Nat) : Bool := !(cs.getD (r.headD 0) 0 == 21 && decide (0 ≤ opener cs (r.headD 0)))
def seqsL (cs lv : List Int) (lf : List Bool) (para : Int) : List Sq :=
 ((runsL lv lf).filter (begsB cs)).map fun r => endedS cs lv lf para (chainF cs (runsL lv lf) cs.length r)
def gath (l : List Int) (at' : List Nat) : List Int := at'.map fun p => l.getD p 0
end Go.Proofs.YtkbinfhclaafhaaGreatDoor
namespace Go.Proofs.YtkbinfhclaafhaaGreatDoor
def cntI (l : List Ent) : Int := ((l.filter (·.i)).length : Int)
theorem cntI_nil : cntI [] = 0 := rfl
theorem cntI_snoc (l : List Ent) (e : Ent) : cntI (l ++ [e]) = cntI l + (if e.i = true then 1 else 0) := by
 unfold cntI
 rw [List.filter_append, List.length_append, List.filter_cons, List.filter_nil]
 cases e.i <;> simp
theorem cntI_ge (l : List Ent) : 0 ≤ cntI l := by unfold cntI; omega
theorem popIso_app (base : List Ent) (e : Ent) (he : e.i = true) : ∀ (r : List Ent), (∀ y ∈ r, y.i = false) → popIso (base ++ e :: r.reverse) = base
 | [], _ => by simpa using popIso_iso base e he
 | y :: r, h => by
  have : base ++ e :: (y :: r).reverse = (base ++ e :: r.reverse) ++ [y] := by simp
  rw [this, popIso_not _ _ (h y (by simp))]
  exact popIso_app base e he r (fun z hz => h z (by simp [hz]))
theorem popIso_plain (base : List Ent) (e : Ent) (he : e.i = true) (s : List Ent) (h : ∀ y ∈ s, y.i = false) : popIso (base ++ e :: s) = base := by
 have := popIso_app base e he s.reverse (by simpa using h)
 simpa using this
theorem popIso_deep (base : List Ent) : ∀ (r : List Ent), 0 < cntI r.reverse → ∃ s, popIso (base ++ r.reverse) = base ++ s ∧ cntI s = cntI r.reverse - 1
 | [], h => by simp [cntI] at h
 | y :: r, h => by
  rw [List.reverse_cons] at h ⊢
  rw [← List.append_assoc]
  cases hy : y.i with
  | true =>
   refine ⟨r.reverse, popIso_iso _ _ hy, ?_⟩
   rw [cntI_snoc, hy, if_pos rfl]; omega
  | false =>
   rw [cntI_snoc, hy, if_neg (by decide)] at h
   obtain ⟨s, h1, h2⟩ := popIso_deep base r (by omega)
   refine ⟨s, by rw [popIso_not _ _ hy]; exact h1, ?_⟩
   rw [cntI_snoc, hy, if_neg (by decide)]; omega
theorem popIso_in (base s : List Ent) (h : 0 < cntI s) : ∃ s', popIso (base ++ s) = base ++ s' ∧ cntI s' = cntI s - 1 := by
 have := popIso_deep base s.reverse (by simpa using h)
 simpa using this
inductive InIso (base : List Ent) (iso0 : Int) (n : Int) (x : XS) : Prop
 | over (h1 : x.st = base) (h2 : x.isos = iso0 + n) (h3 : 0 ≤ iso0)
 | val (e : Ent) (s : List Ent) (h1 : x.st = base ++ e :: s) (h2 : e.i = true) (h3 : x.isos + cntI s + 1 = n) (h4 : 0 ≤ x.isos)
theorem topE_app (a : List Ent) (e : Ent) : topE (a ++ [e]) = e := by simp [topE]
theorem InIso.begin0 {x : XS} (odd : Int) (h0 : 0 ≤ x.isos) : InIso x.st x.isos 1 (beginX x odd) := by
 unfold beginX
 simp only
 split
 ·rename_i hf
  unfold freeX at hf; simp at hf
  exact .val ⟨_, -1, true⟩ [] (by simp; rfl) rfl (by simp only; rw [cntI_nil]; omega) h0
 ·exact .over rfl rfl h0
theorem InIso.begin {base : List Ent} {iso0 n : Int} {x : XS} (h : InIso base iso0 n x) (hn : 1 ≤ n) (odd : Int) : InIso base iso0 (n + 1) (beginX x odd) := by
 unfold beginX
 simp only
 split
 ·rename_i hf
  unfold freeX at hf; simp at hf
  cases h with
  | over h1 h2 h3 => omega
  | val e s h1 h2 h3 h4 =>
   refine .val e (s ++ [⟨_, -1, true⟩]) (by simp only; rw [h1]; simp; rfl) h2 ?_ h4
   rw [cntI_snoc]; simp only [if_true]; omega
 ·cases h with
  | over h1 h2 h3 => exact .over h1 (by simp only; omega) h3
  | val e s h1 h2 h3 h4 => exact .val e s h1 h2 (by simp only; omega) (by simp only; omega)
theorem InIso.embed {base : List Ent} {iso0 n : Int} {x : XS} (h : InIso base iso0 n x) (hn : 1 ≤ n) (c : Int) : InIso base iso0 n (embedX x c) := by
 unfold embedX
 simp only
 generalize (if c = 15 then (0 : Int) else if c = 16 then 1 else -1) = o
 generalize nextL (topE x.st).l _ = nn
 split
 ·rename_i hf
  unfold freeX at hf; simp at hf
  cases h with
  | over h1 h2 h3 => omega
  | val e s h1 h2 h3 h4 =>
   refine .val e (s ++ [⟨_, _, false⟩]) (by simp only; rw [h1]; simp; exact ⟨rfl, rfl⟩) h2 (by simp only; rw [cntI_snoc]; simp; omega) h4
 ·split
  ·cases h with
   | over h1 h2 h3 => exact .over h1 h2 h3
   | val e s h1 h2 h3 h4 => exact .val e s h1 h2 h3 h4
  ·exact h
theorem InIso.pop {base : List Ent} {iso0 n : Int} {x : XS} (h : InIso base iso0 n x) (hn : 1 ≤ n) : InIso base iso0 n (popX x) := by
 unfold popX
 split
 ·exact h
 ·rename_i hz
  cases h with
  | over h1 h2 h3 => omega
  | val e s h1 h2 h3 h4 =>
   split
   ·exact .val e s h1 h2 h3 h4
   ·split
    ·rename_i hc
     obtain ⟨hi, _⟩ := hc
     rcases List.eq_nil_or_concat s with rfl | ⟨s', y, rfl⟩
     ·rw [h1, topE_app] at hi; rw [h2] at hi; cases hi
     ·have e1 : x.st = (base ++ e :: s') ++ [y] := by rw [h1]; simp
      rw [e1, topE_app] at hi
      refine .val e s' (by simp only; rw [e1, List.dropLast_concat]) h2 ?_ h4
      have := cntI_snoc s' y
      rw [hi, if_neg (by decide)] at this
      simp only [List.concat_eq_append] at h3
      simp only
      omega
    ·exact .val e s h1 h2 h3 h4
theorem InIso.end {base : List Ent} {iso0 n m : Int} {x : XS} (h : InIso base iso0 n x) (hn : 2 ≤ n) (ho : XOk m x) : InIso base iso0 (n - 1) (endX x) := by
 unfold endX
 split
 ·cases h with
  | over h1 h2 h3 => exact .over h1 (by simp only; omega) h3
  | val e s h1 h2 h3 h4 => exact .val e s h1 h2 (by simp only; omega) (by simp only; omega)
 ·rename_i hz
  cases h with
  | over h1 h2 h3 => omega
  | val e s h1 h2 h3 h4 =>
   have hv : x.valid = cntI x.st := ho.cnt
   have hc : cntI x.st = cntI base + 1 + cntI s := by
    unfold cntI; rw [h1, List.filter_append, List.length_append, List.filter_cons, if_pos h2, List.length_cons]; omega
   have hb := cntI_ge base
   have hs := cntI_ge s
   rw [if_neg (by omega)]
   obtain ⟨s', e1, e2⟩ := popIso_in (base ++ [e]) s (by omega)
   refine .val e s' ?_ h2 (by simp only; omega) h4
   simp only
   rw [h1, show base ++ e :: s = (base ++ [e]) ++ s by simp, e1]; simp
theorem InIso.out {base : List Ent} {iso0 m : Int} {x : XS} (h : InIso base iso0 1 x) (ho : XOk m x) : (endX x).st = base := by
 unfold endX
 cases h with
 | over h1 h2 h3 => rw [if_pos (by omega)]; exact h1
 | val e s h1 h2 h3 h4 =>
  have hs := cntI_ge s
  have hb := cntI_ge base
  have hv : x.valid = cntI x.st := ho.cnt
  have hc : cntI x.st = cntI base + 1 + cntI s := by
   unfold cntI; rw [h1, List.filter_append, List.length_append, List.filter_cons, if_pos h2, List.length_cons]; omega
  rw [if_neg (by omega), if_neg (by omega)]
  simp only
  rw [h1]
  refine popIso_plain base e h2 s ?_
  intro y hy
  cases hi : y.i with
  | false => rfl
  | true =>
   exfalso
   have : y ∈ s.filter (·.i) := List.mem_filter.2 ⟨hy, hi⟩
   have := List.length_pos_of_mem this
   unfold cntI at h3
   omega
theorem isoB_cases {c : Int} (h : isoB c = true) : c = 18 ∨ c = 19 ∨ c = 20 := by unfold isoB at h; simp at h; omega
theorem xPost_iso (cs : List Int) (i : Nat) (x : XS) (c : Int) (h : isoB c = true) : ∃ odd, xPost cs i x c = beginX x odd := by
 unfold xPost
 rcases isoB_cases h with rfl | rfl | rfl
 ·exact ⟨0, by simp⟩
 ·exact ⟨1, by simp⟩
 ·exact ⟨_, by simp; rfl⟩
theorem InIso.step {cs : List Int} {para : Int} (hp : 0 ≤ para ∧ para ≤ 125) {base : List Ent} {iso0 n : Int} {k : Nat} (h : InIso base iso0 n (xAt cs para k)) (hn : 1 ≤ n) (h2 : cs.getD k 0 = 21 → 2 ≤ n) :
  InIso base iso0 (if cs.getD k 0 = 21 then n - 1 else if isoB (cs.getD k 0) = true then n + 1 else n) (xAt cs para (k + 1)) := by
 have hok := xAt_ok cs para hp k
 rw [xAt]
 generalize xAt cs para k = x at *
 generalize cs.getD k 0 = c at *
 by_cases h21 : c = 21
 ·subst h21
  rw [if_pos rfl, xPre, if_pos rfl]
  have := h.end (h2 rfl) hok
  unfold xPost
  simpa using this
 ·rw [if_neg h21, xPre, if_neg h21]
  by_cases hi : isoB c = true
  ·rw [if_pos hi]
   obtain ⟨odd, ho⟩ := xPost_iso cs k x c hi
   rw [ho]
   exact h.begin hn odd
  ·rw [if_neg hi]
   unfold xPost
   split
   ·exact h.embed hn c
   ·rw [if_neg (by rintro rfl; exact hi rfl), if_neg (by rintro rfl; exact hi rfl), if_neg (by rintro rfl; exact hi rfl)]
    split
    ·exact h.pop hn
    ·exact h
theorem inIso_run {cs : List Int} {para : Int} (hp : 0 ≤ para ∧ para ≤ 125) {base : List Ent} {iso0 : Int} : ∀ (f k : Nat) (n : Int) (d : Nat), cs.length ≤ k + f → 1 ≤ n → InIso base iso0 n (xAt cs para k) → mtL (cs.drop k) n = some d → (endX (xAt cs para (k + d))).st = base ∧ cs.getD (k + d) 0 = 21
 | 0, k, n, d, hf, _, _, hm => by rw [List.drop_eq_nil_of_le (by omega)] at hm; cases hm
 | f + 1, k, n, d, hf, hn, h, hm => by
  rcases Nat.lt_or_ge k cs.length with hk | hk
  ·rw [drop_at hk, mtL] at hm
   by_cases h21 : cs.getD k 0 = 21
   ·rw [if_pos h21] at hm
    by_cases h1 : n - 1 = 0
    ·rw [if_pos h1] at hm
     obtain rfl := Option.some.inj hm
     obtain rfl : n = 1 := by omega
     exact ⟨h.out (xAt_ok cs para hp k), h21⟩
    ·rw [if_neg h1] at hm
     cases hr : mtL (cs.drop (k + 1)) (n - 1) with
     | none => rw [hr] at hm; cases hm
     | some d' =>
      rw [hr] at hm
      obtain rfl := Option.some.inj hm
      have := h.step hp hn (fun _ => by omega)
      rw [if_pos h21] at this
      have := inIso_run hp f (k + 1) (n - 1) d' (by omega) (by omega) this hr
      rw [show k + (d' + 1) = k + 1 + d' by omega]
      exact this
   ·rw [if_neg h21] at hm
    cases hr : mtL (cs.drop (k + 1)) (if isoB (cs.getD k 0) = true then n + 1 else n) with
    | none => rw [hr] at hm; cases hm
    | some d' =>
     rw [hr] at hm
     obtain rfl := Option.some.inj hm
     have := h.step hp hn (fun h' => absurd h' h21)
     rw [if_neg h21] at this
     have := inIso_run hp f (k + 1) _ d' (by omega) (by split <;> omega) this hr
     rw [show k + (d' + 1) = k + 1 + d' by omega]
     exact this
  ·rw [List.drop_eq_nil_of_le hk] at hm; cases hm
theorem mt_level {cs : List Int} {para : Int} (hp : 0 ≤ para ∧ para ≤ 125) {i : Nat} (hi : i < cs.length) (hiso : isoB (cs.getD i 0) = true) (hm : mt cs i < cs.length) : xTop cs para (mt cs i) = xTop cs para i ∧ cs.getD (mt cs i) 0 = 21 := by
 have h21 : ¬ cs.getD i 0 = 21 := by intro e; rw [e] at hiso; cases hiso
 obtain ⟨odd, ho⟩ := xPost_iso cs i (xAt cs para i) (cs.getD i 0) hiso
 have hstart : InIso (xAt cs para i).st (xAt cs para i).isos 1 (xAt cs para (i + 1)) := by
  rw [xAt, xPre, if_neg h21, ho]
  exact InIso.begin0 odd (xAt_ok cs para hp i).isos.1
 unfold mt at hm ⊢
 cases hd : mtL (cs.drop i) 0 with
 | none => rw [hd] at hm; simp at hm
 | some d =>
  simp only
  rw [drop_at hi, mtL, if_neg h21, if_pos hiso] at hd
  cases hr : mtL (cs.drop (i + 1)) (0 + 1) with
  | none => rw [hr] at hd; cases hd
  | some d' =>
   rw [hr] at hd
   obtain rfl := Option.some.inj hd
   have := inIso_run hp cs.length (i + 1) 1 d' (by omega) (Int.le_refl _) hstart hr
   rw [show i + (d' + 1) = i + 1 + d' by omega]
   refine ⟨?_, this.2⟩
   unfold xTop
   rw [this.2, xPre, if_pos rfl, this.1, xPre, if_neg h21]
end Go.Proofs.YtkbinfhclaafhaaGreatDoor
