import Derived.Test.YtkbinfhclaafhaaGreatDoorM03
namespace Go.Proofs.YtkbinfhclaafhaaGreatDoor
open Go.RowKit
set_option maxRecDepth 100000 in
set_option maxHeartbeats 8000000 in
theorem neutral_row (t : List Int) (sos0 eos e : Int) (B g n cap : Nat) (w : World) (hr : IRow w B g n cap t) (hn : n ≤ 100000) :
  Calls Tryz.prog 127 #[.slice (some ⟨g, 0, none⟩) n cap, .int .i64 sos0, .int .i64 eos, .int .i64 e] w fun ev w' => ev = .returned (.tuple #[]) ∧ IRow w' B g n cap (neutL sos0 eos e t) ∧ w.grownBy w' (some g) := by
 have HR : Hid (IRow w B g n cap t) := hr
 have HL : Hid (t.length = n) := hr.len
 clear hr
 go_enter Tryz.func127, Tryz.ntmps127
 go_wp2
 go_loopg [9] n (fun gk i wr => ∃ (k : Nat) (s : Int) (t' : List Int), k ≤ n ∧ gk = n - k ∧ i = .int .i64 k ∧ IRow wr B g n cap t' ∧ w.grownBy wr (some g) ∧ PassTo (fN eos e) gN sos0 t k s t' ∧ AheadN t t' sos0 k s)
 case atStart => exact ⟨0, sos0, t, by omega, rfl, rfl, HR.out, World.grownBy.refl _ _, PassTo.start _ _ _ _, .inl ⟨rfl, rfl⟩⟩
 case round =>
  clear HR
  obtain ⟨k, s, t', hk, rfl, rfl, hI, hG, hN, hA⟩ := hrel
  have HI : Hid (IRow wr B g n cap t') := hI
  have HG : Hid (w.grownBy wr (some g)) := hG
  have HN : Hid (PassTo (fN eos e) gN sos0 t k s t') := hN
  have HA : Hid (AheadN t t' sos0 k s) := hA
  clear hI hG hN hA
  by_cases hlt : k < n
  ·go_wp2
   go_loopg [10] (n - k) (fun gk jv wj => ∃ j : Nat, k ≤ j ∧ j ≤ n ∧ gk = n - j ∧ jv = .int .i64 j ∧ wj = wr ∧ ∀ q, k ≤ q → q < j → strongS (t.getD q 0) < 0)
   case atStart => exact ⟨k, by omega, by omega, rfl, rfl, rfl, fun q h1 h2 => by omega⟩
   case round =>
    obtain ⟨j, hkj, hjn, rfl, rfl, hw, hrun⟩ := hrel
    subst hw
    by_cases hjlt : j < n
    ·have hcj := HI.out.cell j hjlt
     rw [HN.out.at j hkj] at hcj
     obtain ⟨c, hx⟩ : ∃ c, c = t.getD j 0 := ⟨_, rfl⟩
     rw [← hx] at hcj
     obtain ⟨sc, hsc⟩ : ∃ sc, sc = strongS c := ⟨_, rfl⟩
     have HSC : Hid (sc = strongS c) := hsc
     have HX0 : Hid (c = t.getD j 0) := hx
     by_cases h5 : sc < 0
     ·have HRun : Hid (∀ q, k ≤ q → q < j + 1 → strongS (t.getD q 0) < 0) := by
       intro q h1 h2
       rcases Nat.lt_or_ge q j with h | h
       ·exact hrun q h1 h
       ·rw [show q = j by omega, ← hx, ← hsc]; exact h5
      clear hrun hx hsc
      go_wp2_with fail
      refine (strong_any c _).mono ?_
      rintro ev _ ⟨rfl, rfl⟩
      rw [← HSC.out]
      go_wp2
      go_roundg (n - (j + 1))
      case measure => omega
      case rel => exact ⟨j + 1, by omega, by omega, rfl, by simp, rfl, HRun.out⟩
     ·by_cases hKj : k < j
      ·have hjT : j ≤ t.length := by rw [HL.out]; omega
       have HE : Hid (nxtS eos (t.drop j) = sc) := by rw [hsc, hx]; exact nxtS_at (by rw [HL.out]; exact hjlt) (by rw [← hx, ← hsc]; exact h5)
       have HX : Hid (j < t.length → ¬ strongS (t.getD j 0) < 0) := by intro _; rw [← hx, ← hsc]; exact h5
       clear hx hsc
       go_wp2_with fail
       refine (strong_any c _).mono ?_
       rintro ev _ ⟨rfl, rfl⟩
       rw [← HSC.out]
       rcases HA.out with ⟨hk0, hs'⟩ | ⟨hk0, hs'⟩ | hbad
       ·subst hk0
        have hS0 : sos0 = s := hs'.symm
        subst hS0
        by_cases hab : sos0 = sc
        ·have qab : (sos0 == sc) = true := by simpa using hab
         have HS : Hid (PassTo (fN eos e) gN sos0 t j sos0 (fillV t' 0 sos0 (j - 0)) ∧ AheadN t (fillV t' 0 sos0 (j - 0)) sos0 j sos0) := by
          have h1 := runN_fill (d := sos0) HN.out hrun hjT (by rw [HE.out, if_pos hab]) (j - 0) (by omega)
          rw [show 0 + (j - 0) = j by omega] at h1
          exact ⟨h1, .inr (.inr fun h => by have := HX.out h; omega)⟩
         clear hrun hjT hab
         go_wp2_with fail
         refine (strong_any c _).mono ?_
         rintro ev _ ⟨rfl, rfl⟩
         rw [← HSC.out]
         go_wp2
         go_loopg [14] (j - 0) (fun gk qv wq => ∃ m : Nat, 0 + m ≤ j ∧ gk = j - 0 - m ∧ qv = .int .i64 ((0 + m : Nat) : Int) ∧ IRow wq B g n cap (fillV t' 0 sos0 m) ∧ w.grownBy wq (some g))
         case atStart => exact ⟨0, by omega, rfl, rfl, HI.out, HG.out⟩
         case round =>
          obtain ⟨m, hm, rfl, rfl, hIq, hGq⟩ := hrel
          have HIq : Hid (IRow wr B g n cap (fillV t' 0 sos0 m)) := hIq
          have HGq : Hid (w.grownBy wr (some g)) := hGq
          by_cases hmj : 0 + m < j
          ·have hfq := hIq.frozen (0 + m)
           have hcq := hIq.cell (0 + m) (by omega)
           generalize (fillV t' 0 sos0 m).getD (0 + m) 0 = cq at hcq
           clear hIq hGq
           obtain ⟨q, hq⟩ : ∃ q, q = 0 + m := ⟨_, rfl⟩
           have HQ : Hid (q = 0 + m) := hq
           rw [← hq] at hfq hcq hmj ⊢
           clear hq
           go_wp2
           go_roundg (j - 0 - (m + 1))
           case measure => have := HQ.out; omega
           case rel =>
            refine ⟨m + 1, by have := HQ.out; omega, rfl, by have := HQ.out; simp; omega, ?_, ?_⟩
            ·rw [HQ.out]; exact HIq.out.set (0 + m) sos0
            ·exact HGq.out.trans (HIq.out.grown q sos0)
          ·obtain rfl : j = m := by omega
           clear hIq hGq
           have hkm : 0 + j = j := by omega
           rw [hkm]
           clear hkm
           go_wp2
           go_roundg (n - j)
           case measure => omega
           case rel => exact ⟨j, _, _, by omega, rfl, by simp, HIq.out, HGq.out, HS.out.1, HS.out.2⟩
        ·have qab : (sos0 == sc) = false := by simpa using hab
         have HS : Hid (PassTo (fN eos e) gN sos0 t j sos0 (fillV t' 0 e (j - 0)) ∧ AheadN t (fillV t' 0 e (j - 0)) sos0 j sos0) := by
          have h1 := runN_fill (d := e) HN.out hrun hjT (by rw [HE.out, if_neg hab]) (j - 0) (by omega)
          rw [show 0 + (j - 0) = j by omega] at h1
          exact ⟨h1, .inr (.inr fun h => by have := HX.out h; omega)⟩
         clear hrun hjT hab
         go_wp2_with fail
         refine (strong_any c _).mono ?_
         rintro ev _ ⟨rfl, rfl⟩
         rw [← HSC.out]
         go_wp2
         go_loopg [14] (j - 0) (fun gk qv wq => ∃ m : Nat, 0 + m ≤ j ∧ gk = j - 0 - m ∧ qv = .int .i64 ((0 + m : Nat) : Int) ∧ IRow wq B g n cap (fillV t' 0 e m) ∧ w.grownBy wq (some g))
         case atStart => exact ⟨0, by omega, rfl, rfl, HI.out, HG.out⟩
         case round =>
          obtain ⟨m, hm, rfl, rfl, hIq, hGq⟩ := hrel
          have HIq : Hid (IRow wr B g n cap (fillV t' 0 e m)) := hIq
          have HGq : Hid (w.grownBy wr (some g)) := hGq
          by_cases hmj : 0 + m < j
          ·have hfq := hIq.frozen (0 + m)
           have hcq := hIq.cell (0 + m) (by omega)
           generalize (fillV t' 0 e m).getD (0 + m) 0 = cq at hcq
           clear hIq hGq
           obtain ⟨q, hq⟩ : ∃ q, q = 0 + m := ⟨_, rfl⟩
           have HQ : Hid (q = 0 + m) := hq
           rw [← hq] at hfq hcq hmj ⊢
           clear hq
           go_wp2
           go_roundg (j - 0 - (m + 1))
           case measure => have := HQ.out; omega
           case rel =>
            refine ⟨m + 1, by have := HQ.out; omega, rfl, by have := HQ.out; simp; omega, ?_, ?_⟩
            ·rw [HQ.out]; exact HIq.out.set (0 + m) e
            ·exact HGq.out.trans (HIq.out.grown q e)
          ·obtain rfl : j = m := by omega
           clear hIq hGq
           have hkm : 0 + j = j := by omega
           rw [hkm]
           clear hkm
           go_wp2
           go_roundg (n - j)
           case measure => omega
           case rel => exact ⟨j, _, _, by omega, rfl, by simp, HIq.out, HGq.out, HS.out.1, HS.out.2⟩
       ·obtain ⟨k', rfl⟩ : ∃ k', k = k' + 1 := ⟨k - 1, by omega⟩
        obtain ⟨p, hp⟩ : ∃ p, p = t'.getD k' 0 := ⟨_, rfl⟩
        have hcp := HI.out.cell k' (by omega)
        rw [← hp] at hcp
        have hS0 : s = strongS p := by rw [hs', Nat.add_sub_cancel, hp]
        have HSP : Hid (s = strongS p) := hS0
        clear hp hs' hS0
        by_cases hab : s = sc
        ·have qab : (s == sc) = true := by simpa using hab
         have HS : Hid (PassTo (fN eos e) gN sos0 t j s (fillV t' (k' + 1) s (j - (k' + 1))) ∧ AheadN t (fillV t' (k' + 1) s (j - (k' + 1))) sos0 j s) := by
          have h1 := runN_fill (d := s) HN.out hrun hjT (by rw [HE.out, if_pos hab]) (j - (k' + 1)) (by omega)
          rw [show (k' + 1) + (j - (k' + 1)) = j by omega] at h1
          exact ⟨h1, .inr (.inr fun h => by have := HX.out h; omega)⟩
         clear hrun hjT hab
         go_wp2_with fail
         refine (strong_any p _).mono ?_
         rintro ev _ ⟨rfl, rfl⟩
         rw [← HSP.out]
         go_wp2_with fail
         refine (strong_any c _).mono ?_
         rintro ev _ ⟨rfl, rfl⟩
         rw [← HSC.out]
         go_wp2
         go_loopg [14] (j - (k' + 1)) (fun gk qv wq => ∃ m : Nat, (k' + 1) + m ≤ j ∧ gk = j - (k' + 1) - m ∧ qv = .int .i64 (((k' + 1) + m : Nat) : Int) ∧ IRow wq B g n cap (fillV t' (k' + 1) s m) ∧ w.grownBy wq (some g))
         case atStart => exact ⟨0, by omega, rfl, rfl, HI.out, HG.out⟩
         case round =>
          obtain ⟨m, hm, rfl, rfl, hIq, hGq⟩ := hrel
          have HIq : Hid (IRow wr B g n cap (fillV t' (k' + 1) s m)) := hIq
          have HGq : Hid (w.grownBy wr (some g)) := hGq
          by_cases hmj : (k' + 1) + m < j
          ·have hfq := hIq.frozen ((k' + 1) + m)
           have hcq := hIq.cell ((k' + 1) + m) (by omega)
           generalize (fillV t' (k' + 1) s m).getD ((k' + 1) + m) 0 = cq at hcq
           clear hIq hGq
           obtain ⟨q, hq⟩ : ∃ q, q = (k' + 1) + m := ⟨_, rfl⟩
           have HQ : Hid (q = (k' + 1) + m) := hq
           rw [← hq] at hfq hcq hmj ⊢
           clear hq
           go_wp2
           go_roundg (j - (k' + 1) - (m + 1))
           case measure => have := HQ.out; omega
           case rel =>
            refine ⟨m + 1, by have := HQ.out; omega, rfl, by have := HQ.out; simp; omega, ?_, ?_⟩
            ·rw [HQ.out]; exact HIq.out.set ((k' + 1) + m) s
            ·exact HGq.out.trans (HIq.out.grown q s)
          ·obtain rfl : m = j - (k' + 1) := by omega
           clear hIq hGq
           have hkm : (k' + 1) + (j - (k' + 1)) = j := by omega
           rw [hkm]
           clear hkm
           go_wp2
           go_roundg (n - j)
           case measure => omega
           case rel => exact ⟨j, _, _, by omega, rfl, by simp, HIq.out, HGq.out, HS.out.1, HS.out.2⟩
        ·have qab : (s == sc) = false := by simpa using hab
         have HS : Hid (PassTo (fN eos e) gN sos0 t j s (fillV t' (k' + 1) e (j - (k' + 1))) ∧ AheadN t (fillV t' (k' + 1) e (j - (k' + 1))) sos0 j s) := by
          have h1 := runN_fill (d := e) HN.out hrun hjT (by rw [HE.out, if_neg hab]) (j - (k' + 1)) (by omega)
          rw [show (k' + 1) + (j - (k' + 1)) = j by omega] at h1
          exact ⟨h1, .inr (.inr fun h => by have := HX.out h; omega)⟩
         clear hrun hjT hab
         go_wp2_with fail
         refine (strong_any p _).mono ?_
         rintro ev _ ⟨rfl, rfl⟩
         rw [← HSP.out]
         go_wp2_with fail
         refine (strong_any c _).mono ?_
         rintro ev _ ⟨rfl, rfl⟩
         rw [← HSC.out]
         go_wp2
         go_loopg [14] (j - (k' + 1)) (fun gk qv wq => ∃ m : Nat, (k' + 1) + m ≤ j ∧ gk = j - (k' + 1) - m ∧ qv = .int .i64 (((k' + 1) + m : Nat) : Int) ∧ IRow wq B g n cap (fillV t' (k' + 1) e m) ∧ w.grownBy wq (some g))
         case atStart => exact ⟨0, by omega, rfl, rfl, HI.out, HG.out⟩
         case round =>
          obtain ⟨m, hm, rfl, rfl, hIq, hGq⟩ := hrel
          have HIq : Hid (IRow wr B g n cap (fillV t' (k' + 1) e m)) := hIq
          have HGq : Hid (w.grownBy wr (some g)) := hGq
          by_cases hmj : (k' + 1) + m < j
          ·have hfq := hIq.frozen ((k' + 1) + m)
           have hcq := hIq.cell ((k' + 1) + m) (by omega)
           generalize (fillV t' (k' + 1) e m).getD ((k' + 1) + m) 0 = cq at hcq
           clear hIq hGq
           obtain ⟨q, hq⟩ : ∃ q, q = (k' + 1) + m := ⟨_, rfl⟩
           have HQ : Hid (q = (k' + 1) + m) := hq
           rw [← hq] at hfq hcq hmj ⊢
           clear hq
           go_wp2
           go_roundg (j - (k' + 1) - (m + 1))
           case measure => have := HQ.out; omega
           case rel =>
            refine ⟨m + 1, by have := HQ.out; omega, rfl, by have := HQ.out; simp; omega, ?_, ?_⟩
            ·rw [HQ.out]; exact HIq.out.set ((k' + 1) + m) e
            ·exact HGq.out.trans (HIq.out.grown q e)
          ·obtain rfl : m = j - (k' + 1) := by omega
           clear hIq hGq
           have hkm : (k' + 1) + (j - (k' + 1)) = j := by omega
           rw [hkm]
           clear hkm
           go_wp2
           go_roundg (n - j)
           case measure => omega
           case rel => exact ⟨j, _, _, by omega, rfl, by simp, HIq.out, HGq.out, HS.out.1, HS.out.2⟩
       ·exact absurd (hrun k (Nat.le_refl _) hKj) (hbad (by rw [HL.out]; exact hlt))
      ·obtain rfl : j = k := by omega
       have HS : Hid (PassTo (fN eos e) gN sos0 t (j + 1) sc t' ∧ AheadN t t' sos0 (j + 1) sc) := by
        refine ⟨?_, .inr (.inl ⟨by omega, ?_⟩)⟩
        ·rw [hsc, hx]; exact runN_one HN.out (by rw [HL.out]; exact hjlt) (by rw [← hx, ← hsc]; exact h5)
        ·rw [Nat.add_sub_cancel, HN.out.at j (Nat.le_refl _), ← hx, hsc]
       clear hx hsc hrun
       go_wp2_with fail
       refine (strong_any c _).mono ?_
       rintro ev _ ⟨rfl, rfl⟩
       rw [← HSC.out]
       go_wp2
       go_roundg (n - (j + 1))
       case measure => omega
       case rel => exact ⟨j + 1, _, _, by omega, rfl, by simp, HI.out, HG.out, HS.out.1, HS.out.2⟩
    ·have hjT : j ≤ t.length := by rw [HL.out]; omega
     have hKj : k < j := by omega
     have HE : Hid (nxtS eos (t.drop j) = eos) := nxtS_end (by rw [HL.out]; exact hjlt)
     have HX : Hid (j < t.length → ¬ strongS (t.getD j 0) < 0) := by intro h; rw [HL.out] at h; exact absurd h hjlt
     rcases HA.out with ⟨hk0, hs'⟩ | ⟨hk0, hs'⟩ | hbad
     ·subst hk0
      have hS0 : sos0 = s := hs'.symm
      subst hS0
      by_cases hab : sos0 = eos
      ·have qab : (sos0 == eos) = true := by simpa using hab
       have HS : Hid (PassTo (fN eos e) gN sos0 t j sos0 (fillV t' 0 sos0 (j - 0)) ∧ AheadN t (fillV t' 0 sos0 (j - 0)) sos0 j sos0) := by
        have h1 := runN_fill (d := sos0) HN.out hrun hjT (by rw [HE.out, if_pos hab]) (j - 0) (by omega)
        rw [show 0 + (j - 0) = j by omega] at h1
        exact ⟨h1, .inr (.inr fun h => by have := HX.out h; omega)⟩
       clear hrun hjT hab
       go_wp2
       go_loopg [14] (j - 0) (fun gk qv wq => ∃ m : Nat, 0 + m ≤ j ∧ gk = j - 0 - m ∧ qv = .int .i64 ((0 + m : Nat) : Int) ∧ IRow wq B g n cap (fillV t' 0 sos0 m) ∧ w.grownBy wq (some g))
       case atStart => exact ⟨0, by omega, rfl, rfl, HI.out, HG.out⟩
       case round =>
        obtain ⟨m, hm, rfl, rfl, hIq, hGq⟩ := hrel
        have HIq : Hid (IRow wr B g n cap (fillV t' 0 sos0 m)) := hIq
        have HGq : Hid (w.grownBy wr (some g)) := hGq
        by_cases hmj : 0 + m < j
        ·have hfq := hIq.frozen (0 + m)
         have hcq := hIq.cell (0 + m) (by omega)
         generalize (fillV t' 0 sos0 m).getD (0 + m) 0 = cq at hcq
         clear hIq hGq
         obtain ⟨q, hq⟩ : ∃ q, q = 0 + m := ⟨_, rfl⟩
         have HQ : Hid (q = 0 + m) := hq
         rw [← hq] at hfq hcq hmj ⊢
         clear hq
         go_wp2
         go_roundg (j - 0 - (m + 1))
         case measure => have := HQ.out; omega
         case rel =>
          refine ⟨m + 1, by have := HQ.out; omega, rfl, by have := HQ.out; simp; omega, ?_, ?_⟩
          ·rw [HQ.out]; exact HIq.out.set (0 + m) sos0
          ·exact HGq.out.trans (HIq.out.grown q sos0)
        ·obtain rfl : j = m := by omega
         clear hIq hGq
         have hkm : 0 + j = j := by omega
         rw [hkm]
         clear hkm
         go_wp2
         go_roundg (n - j)
         case measure => omega
         case rel => exact ⟨j, _, _, by omega, rfl, by simp, HIq.out, HGq.out, HS.out.1, HS.out.2⟩
      ·have qab : (sos0 == eos) = false := by simpa using hab
       have HS : Hid (PassTo (fN eos e) gN sos0 t j sos0 (fillV t' 0 e (j - 0)) ∧ AheadN t (fillV t' 0 e (j - 0)) sos0 j sos0) := by
        have h1 := runN_fill (d := e) HN.out hrun hjT (by rw [HE.out, if_neg hab]) (j - 0) (by omega)
        rw [show 0 + (j - 0) = j by omega] at h1
        exact ⟨h1, .inr (.inr fun h => by have := HX.out h; omega)⟩
       clear hrun hjT hab
       go_wp2
       go_loopg [14] (j - 0) (fun gk qv wq => ∃ m : Nat, 0 + m ≤ j ∧ gk = j - 0 - m ∧ qv = .int .i64 ((0 + m : Nat) : Int) ∧ IRow wq B g n cap (fillV t' 0 e m) ∧ w.grownBy wq (some g))
       case atStart => exact ⟨0, by omega, rfl, rfl, HI.out, HG.out⟩
       case round =>
        obtain ⟨m, hm, rfl, rfl, hIq, hGq⟩ := hrel
        have HIq : Hid (IRow wr B g n cap (fillV t' 0 e m)) := hIq
        have HGq : Hid (w.grownBy wr (some g)) := hGq
        by_cases hmj : 0 + m < j
        ·have hfq := hIq.frozen (0 + m)
         have hcq := hIq.cell (0 + m) (by omega)
         generalize (fillV t' 0 e m).getD (0 + m) 0 = cq at hcq
         clear hIq hGq
         obtain ⟨q, hq⟩ : ∃ q, q = 0 + m := ⟨_, rfl⟩
         have HQ : Hid (q = 0 + m) := hq
         rw [← hq] at hfq hcq hmj ⊢
         clear hq
         go_wp2
         go_roundg (j - 0 - (m + 1))
         case measure => have := HQ.out; omega
         case rel =>
          refine ⟨m + 1, by have := HQ.out; omega, rfl, by have := HQ.out; simp; omega, ?_, ?_⟩
          ·rw [HQ.out]; exact HIq.out.set (0 + m) e
          ·exact HGq.out.trans (HIq.out.grown q e)
        ·obtain rfl : j = m := by omega
         clear hIq hGq
         have hkm : 0 + j = j := by omega
         rw [hkm]
         clear hkm
         go_wp2
         go_roundg (n - j)
         case measure => omega
         case rel => exact ⟨j, _, _, by omega, rfl, by simp, HIq.out, HGq.out, HS.out.1, HS.out.2⟩
     ·obtain ⟨k', rfl⟩ : ∃ k', k = k' + 1 := ⟨k - 1, by omega⟩
      obtain ⟨p, hp⟩ : ∃ p, p = t'.getD k' 0 := ⟨_, rfl⟩
      have hcp := HI.out.cell k' (by omega)
      rw [← hp] at hcp
      have hS0 : s = strongS p := by rw [hs', Nat.add_sub_cancel, hp]
      have HSP : Hid (s = strongS p) := hS0
      clear hp hs' hS0
      by_cases hab : s = eos
      ·have qab : (s == eos) = true := by simpa using hab
       have HS : Hid (PassTo (fN eos e) gN sos0 t j s (fillV t' (k' + 1) s (j - (k' + 1))) ∧ AheadN t (fillV t' (k' + 1) s (j - (k' + 1))) sos0 j s) := by
        have h1 := runN_fill (d := s) HN.out hrun hjT (by rw [HE.out, if_pos hab]) (j - (k' + 1)) (by omega)
        rw [show (k' + 1) + (j - (k' + 1)) = j by omega] at h1
        exact ⟨h1, .inr (.inr fun h => by have := HX.out h; omega)⟩
       clear hrun hjT hab
       go_wp2_with fail
       refine (strong_any p _).mono ?_
       rintro ev _ ⟨rfl, rfl⟩
       rw [← HSP.out]
       go_wp2
       go_loopg [14] (j - (k' + 1)) (fun gk qv wq => ∃ m : Nat, (k' + 1) + m ≤ j ∧ gk = j - (k' + 1) - m ∧ qv = .int .i64 (((k' + 1) + m : Nat) : Int) ∧ IRow wq B g n cap (fillV t' (k' + 1) s m) ∧ w.grownBy wq (some g))
       case atStart => exact ⟨0, by omega, rfl, rfl, HI.out, HG.out⟩
       case round =>
        obtain ⟨m, hm, rfl, rfl, hIq, hGq⟩ := hrel
        have HIq : Hid (IRow wr B g n cap (fillV t' (k' + 1) s m)) := hIq
        have HGq : Hid (w.grownBy wr (some g)) := hGq
        by_cases hmj : (k' + 1) + m < j
        ·have hfq := hIq.frozen ((k' + 1) + m)
         have hcq := hIq.cell ((k' + 1) + m) (by omega)
         generalize (fillV t' (k' + 1) s m).getD ((k' + 1) + m) 0 = cq at hcq
         clear hIq hGq
         obtain ⟨q, hq⟩ : ∃ q, q = (k' + 1) + m := ⟨_, rfl⟩
         have HQ : Hid (q = (k' + 1) + m) := hq
         rw [← hq] at hfq hcq hmj ⊢
         clear hq
         go_wp2
         go_roundg (j - (k' + 1) - (m + 1))
         case measure => have := HQ.out; omega
         case rel =>
          refine ⟨m + 1, by have := HQ.out; omega, rfl, by have := HQ.out; simp; omega, ?_, ?_⟩
          ·rw [HQ.out]; exact HIq.out.set ((k' + 1) + m) s
          ·exact HGq.out.trans (HIq.out.grown q s)
        ·obtain rfl : m = j - (k' + 1) := by omega
         clear hIq hGq
         have hkm : (k' + 1) + (j - (k' + 1)) = j := by omega
         rw [hkm]
         clear hkm
         go_wp2
         go_roundg (n - j)
         case measure => omega
         case rel => exact ⟨j, _, _, by omega, rfl, by simp, HIq.out, HGq.out, HS.out.1, HS.out.2⟩
      ·have qab : (s == eos) = false := by simpa using hab
       have HS : Hid (PassTo (fN eos e) gN sos0 t j s (fillV t' (k' + 1) e (j - (k' + 1))) ∧ AheadN t (fillV t' (k' + 1) e (j - (k' + 1))) sos0 j s) := by
        have h1 := runN_fill (d := e) HN.out hrun hjT (by rw [HE.out, if_neg hab]) (j - (k' + 1)) (by omega)
        rw [show (k' + 1) + (j - (k' + 1)) = j by omega] at h1
        exact ⟨h1, .inr (.inr fun h => by have := HX.out h; omega)⟩
       clear hrun hjT hab
       go_wp2_with fail
       refine (strong_any p _).mono ?_
       rintro ev _ ⟨rfl, rfl⟩
       rw [← HSP.out]
       go_wp2
       go_loopg [14] (j - (k' + 1)) (fun gk qv wq => ∃ m : Nat, (k' + 1) + m ≤ j ∧ gk = j - (k' + 1) - m ∧ qv = .int .i64 (((k' + 1) + m : Nat) : Int) ∧ IRow wq B g n cap (fillV t' (k' + 1) e m) ∧ w.grownBy wq (some g))
       case atStart => exact ⟨0, by omega, rfl, rfl, HI.out, HG.out⟩
       case round =>
        obtain ⟨m, hm, rfl, rfl, hIq, hGq⟩ := hrel
        have HIq : Hid (IRow wr B g n cap (fillV t' (k' + 1) e m)) := hIq
        have HGq : Hid (w.grownBy wr (some g)) := hGq
        by_cases hmj : (k' + 1) + m < j
        ·have hfq := hIq.frozen ((k' + 1) + m)
         have hcq := hIq.cell ((k' + 1) + m) (by omega)
         generalize (fillV t' (k' + 1) e m).getD ((k' + 1) + m) 0 = cq at hcq
         clear hIq hGq
         obtain ⟨q, hq⟩ : ∃ q, q = (k' + 1) + m := ⟨_, rfl⟩
         have HQ : Hid (q = (k' + 1) + m) := hq
         rw [← hq] at hfq hcq hmj ⊢
         clear hq
         go_wp2
         go_roundg (j - (k' + 1) - (m + 1))
         case measure => have := HQ.out; omega
         case rel =>
          refine ⟨m + 1, by have := HQ.out; omega, rfl, by have := HQ.out; simp; omega, ?_, ?_⟩
          ·rw [HQ.out]; exact HIq.out.set ((k' + 1) + m) e
          ·exact HGq.out.trans (HIq.out.grown q e)
        ·obtain rfl : m = j - (k' + 1) := by omega
         clear hIq hGq
         have hkm : (k' + 1) + (j - (k' + 1)) = j := by omega
         rw [hkm]
         clear hkm
         go_wp2
         go_roundg (n - j)
         case measure => omega
         case rel => exact ⟨j, _, _, by omega, rfl, by simp, HIq.out, HGq.out, HS.out.1, HS.out.2⟩
     ·exact absurd (hrun k (Nat.le_refl _) hKj) (hbad (by rw [HL.out]; exact hlt))
  ·have HE : Hid (t' = neutL sos0 eos e t) := HN.out.stop (by rw [HL.out]; exact hlt)
   go_wp2
   go_end0
   exact ⟨rfl, HE.out ▸ HI.out, HG.out⟩
end Go.Proofs.YtkbinfhclaafhaaGreatDoor
namespace Go.Proofs.YtkbinfhclaafhaaGreatDoor
open Go.RowKit
set_option maxRecDepth 100000 in
set_option maxHeartbeats 8000000 in
theorem weak_row (t : List Int) (sos : Int) (vo : Value) (B g n cap : Nat) (w : World) (hr : IRow w B g n cap t) (hn : n ≤ 100000) (hn0 : 0 < n) :
  Calls Tryz.prog 124 #[.slice (some ⟨g, 0, none⟩) n cap, vo, .int .i64 sos] w fun e w' => e = .returned (.tuple #[]) ∧ IRow w' B g n cap (weakL sos t) ∧ w.grownBy w' (some g) := by
 have HR : Hid (IRow w B g n cap t) := hr
 have HL : Hid (t.length = n) := hr.len
 clear hr
 go_enter Tryz.func124, Tryz.ntmps124
 go_wp2
 go_loopg [7] n (fun gk i wr => ∃ (k : Nat) (s : Option Int) (t' : List Int), k ≤ n ∧ gk = n - k ∧ i = .int .i64 k ∧ IRow wr B g n cap t' ∧ w.grownBy wr (some g) ∧ PassTo (f1 sos) (g1 sos) none t k s t' ∧ Ahead t' k s)
 case atStart => exact ⟨0, none, t, by omega, rfl, rfl, HR.out, World.grownBy.refl _ _, PassTo.start _ _ _ _, Ahead.start _⟩
 case round =>
  obtain ⟨k, s, t', hk, rfl, rfl, hI, hG, hN, hA⟩ := hrel
  have HI : Hid (IRow wr B g n cap t') := hI
  have HG : Hid (w.grownBy wr (some g)) := hG
  by_cases hlt : k < n
  ·have hlt' : k < t.length := by rw [HL.out]; exact hlt
   have hlt2 : k < t'.length := by rw [hI.len]; exact hlt
   have hcell := hI.cell k hlt
   rw [hN.at k (Nat.le_refl _)] at hcell
   have hfr := hI.frozen k
   obtain ⟨c, hx⟩ : ∃ c, c = t.getD k 0 := ⟨_, rfl⟩
   rw [← hx] at hcell
   by_cases h8 : c = 8
   ·subst h8
    have key : ∀ v : Int, v = f1 sos s 8 (t.drop (k + 1)) → Hid (PassTo (f1 sos) (g1 sos) none t (k + 1) (some v) (t'.set k v) ∧ Ahead (t'.set k v) (k + 1) (some v)) := fun v hv =>
     ⟨hN.step hlt' v (some v) (by rw [← hx]; exact hv) (by rw [← hx, g1, ← hv]), Ahead.set v hlt2⟩
    cases k with
    | zero =>
     obtain rfl : s = none := by rcases hA with ⟨_, h⟩ | ⟨h, _⟩; exact h; omega
     have HS := key sos rfl
     clear key hI hG hN hA hx hlt' hlt2
     go_wp2
     go_roundg (n - 1)
     case measure => omega
     case rel => exact ⟨1, _, _, by omega, rfl, rfl, HI.out.set 0 _, HG.out.trans (HI.out.grown 0 _), HS.out.1, HS.out.2⟩
    | succ j =>
     obtain ⟨p, hp⟩ : ∃ p, p = t'.getD j 0 := ⟨_, rfl⟩
     obtain rfl : s = some p := by rcases hA with ⟨h, _⟩ | ⟨_, h⟩; omega; rw [h, Nat.add_sub_cancel, hp]
     have hcell2 := hI.cell j (by omega)
     rw [← hp] at hcell2
     have hset : ∀ a b : Int, IRow ((wr.setCell ⟨g, j + 1, none⟩ (.int .i64 a)).setCell ⟨g, j + 1, none⟩ (.int .i64 b)) B g n cap (t'.set (j + 1) b) ∧ w.grownBy ((wr.setCell ⟨g, j + 1, none⟩ (.int .i64 a)).setCell ⟨g, j + 1, none⟩ (.int .i64 b)) (some g) := fun a b => by
      have h2 := (hI.set (j + 1) a).set (j + 1) b
      rw [List.set_set] at h2
      exact ⟨h2, (hG.trans (hI.grown (j + 1) a)).trans ((hI.set (j + 1) a).grown (j + 1) b)⟩
     have HSet : Hid (∀ a b : Int, IRow ((wr.setCell ⟨g, j + 1, none⟩ (.int .i64 a)).setCell ⟨g, j + 1, none⟩ (.int .i64 b)) B g n cap (t'.set (j + 1) b) ∧ w.grownBy ((wr.setCell ⟨g, j + 1, none⟩ (.int .i64 a)).setCell ⟨g, j + 1, none⟩ (.int .i64 b)) (some g)) := hset
     have HSet3 : Hid (∀ a b c : Int, IRow (((wr.setCell ⟨g, j + 1, none⟩ (.int .i64 a)).setCell ⟨g, j + 1, none⟩ (.int .i64 b)).setCell ⟨g, j + 1, none⟩ (.int .i64 c)) B g n cap (t'.set (j + 1) c) ∧ w.grownBy (((wr.setCell ⟨g, j + 1, none⟩ (.int .i64 a)).setCell ⟨g, j + 1, none⟩ (.int .i64 b)).setCell ⟨g, j + 1, none⟩ (.int .i64 c)) (some g)) := fun a b c => by
      have h2 := (hset a b).1.set (j + 1) c
      rw [List.set_set] at h2
      exact ⟨h2, (hset a b).2.trans ((hset a b).1.grown (j + 1) c)⟩
     have HK : Hid (∀ v : Int, v = f1 sos (some p) 8 (t.drop (j + 1 + 1)) → Hid (PassTo (f1 sos) (g1 sos) none t (j + 1 + 1) (some v) (t'.set (j + 1) v) ∧ Ahead (t'.set (j + 1) v) (j + 1 + 1) (some v))) := key
     clear key hset hI hG hN hA hx hlt' hlt2 hp
     cases hiso : isoB p
     ·by_cases h21 : p = 21
      ·have HS := HK.out 12 (by simp [f1, h21])
       have q21 : (p == 21) = true := by simpa using h21
       have HIs : Hid (isoB p = false) := hiso
       clear h21 hiso
       go_wp2_with fail
       refine (isolate_any p _).mono ?_
       rintro e _ ⟨rfl, rfl⟩
       rw [HIs.out]
       go_wp2
       go_roundg (n - (j + 1 + 1))
       case measure => omega
       case rel => exact ⟨j + 1 + 1, _, _, by omega, rfl, by simp, (HSet3.out _ _ _).1, (HSet3.out _ _ _).2, HS.out.1, HS.out.2⟩
      ·have HS := HK.out p (by simp [f1, h21, hiso])
       have q21 : (p == 21) = false := by simpa using h21
       have HIs : Hid (isoB p = false) := hiso
       clear h21 hiso
       go_wp2_with fail
       refine (isolate_any p _).mono ?_
       rintro e _ ⟨rfl, rfl⟩
       rw [HIs.out]
       go_wp2
       go_roundg (n - (j + 1 + 1))
       case measure => omega
       case rel => exact ⟨j + 1 + 1, _, _, by omega, rfl, by simp, (HSet.out _ _).1, (HSet.out _ _).2, HS.out.1, HS.out.2⟩
     ·have HS := HK.out 12 (by simp [f1, hiso])
      have HIs : Hid (isoB p = true) := hiso
      clear hiso
      go_wp2_with fail
      refine (isolate_any p _).mono ?_
      rintro e _ ⟨rfl, rfl⟩
      rw [HIs.out]
      go_wp2
      go_roundg (n - (j + 1 + 1))
      case measure => omega
      case rel => exact ⟨j + 1 + 1, _, _, by omega, rfl, by simp, (HSet3.out _ _ _).1, (HSet3.out _ _ _).2, HS.out.1, HS.out.2⟩
   ·have q8 : (c == 8) = false := by simpa using h8
    have h1 := hN.stay hlt' (some c) (by rw [← hx, f1_not h8]) (by rw [← hx, g1, f1_not h8])
    have h2 : Ahead t' (k + 1) (some c) := by rw [hx, ← hN.at k (Nat.le_refl _)]; exact Ahead.stay
    have HS1 : Hid _ := h1
    have HS2 : Hid _ := h2
    clear h1 h2 hI hG hN hA hx hlt' hlt2 h8
    go_wp2
    go_roundg (n - (k + 1))
    case measure => omega
    case rel => exact ⟨k + 1, _, _, by omega, rfl, by simp, HI.out, HG.out, HS1.out, HS2.out⟩
  ·have HE : Hid (t' = pass (f1 sos) (g1 sos) none t) := hN.stop (by rw [HL.out]; exact hlt)
   clear hI hG hN hA
   go_wp2_with fail
   refine (refnumbers_row (pass (f1 sos) (g1 sos) none t) sos 2 6 B g n cap wr (HE.out ▸ HI.out) hn).mono ?_
   rintro e w2 ⟨rfl, hI2, hG2⟩
   have HI2 : Hid (IRow w2 B g n cap (numL 2 6 sos (pass (f1 sos) (g1 sos) none t))) := hI2
   have HG2 : Hid (w.grownBy w2 (some g)) := HG.out.trans hG2
   have HL2 : Hid ((numL 2 6 sos (pass (f1 sos) (g1 sos) none t)).length = n) := hI2.len
   clear hI2 hG2 HI HG HE
   generalize hb2 : numL 2 6 sos (pass (f1 sos) (g1 sos) none t) = tb at HI2 HL2
   have HB2 : Hid (numL 2 6 sos (pass (f1 sos) (g1 sos) none t) = tb) := hb2
   clear hb2
   go_wp2
   go_loopg [9] n (fun gk i wr => ∃ (k : Nat) (t' : List Int), k ≤ n ∧ gk = n - k ∧ i = .int .i64 k ∧ IRow wr B g n cap t' ∧ w.grownBy wr (some g) ∧ PassTo f3 g3 () tb k () t')
   case atStart => exact ⟨0, tb, by omega, rfl, rfl, HI2.out, HG2.out, PassTo.start _ _ _ _⟩
   case round =>
    clear HI2 HG2
    obtain ⟨k, t', hk, rfl, rfl, hI, hG, hN⟩ := hrel
    have HI : Hid (IRow wr B g n cap t') := hI
    have HG : Hid (w.grownBy wr (some g)) := hG
    by_cases hlt : k < n
    ·have hlt' : k < tb.length := by rw [HL2.out]; exact hlt
     have hcell := hI.cell k hlt
     rw [hN.at k (Nat.le_refl _)] at hcell
     have hfr := hI.frozen k
     obtain ⟨c, hx⟩ : ∃ c, c = tb.getD k 0 := ⟨_, rfl⟩
     rw [← hx] at hcell
     by_cases h2 : c = 2
     ·subst h2
      have HS : Hid (PassTo f3 g3 () tb (k + 1) () (t'.set k 1)) := hN.step hlt' 1 () (by rw [← hx]; rfl) rfl
      clear hI hG hN hx hlt'
      go_wp2
      go_roundg (n - (k + 1))
      case measure => omega
      case rel => exact ⟨k + 1, _, by omega, rfl, by simp, HI.out.set k _, HG.out.trans (HI.out.grown k _), HS.out⟩
     ·have q2 : (c == 2) = false := by simpa using h2
      have HS : Hid (PassTo f3 g3 () tb (k + 1) () t') := hN.stay hlt' () (by rw [← hx, f3_not h2]) rfl
      clear hI hG hN hx hlt' h2
      go_wp2
      go_roundg (n - (k + 1))
      case measure => omega
      case rel => exact ⟨k + 1, _, by omega, rfl, by simp, HI.out, HG.out, HS.out⟩
    ·have HE : Hid (t' = pass f3 g3 () tb) := hN.stop (by rw [HL2.out]; exact hlt)
     have HI3 : Hid (IRow wr B g n cap (pass f3 g3 () tb)) := HE.out ▸ hI
     have HL3 : Hid ((pass f3 g3 () tb).length = n) := HI3.out.len
     clear hI hG hN HI HE
     generalize hb3 : pass f3 g3 () tb = tc at HI3 HL3
     have HB3 : Hid (pass f3 g3 () tb = tc) := hb3
     clear hb3
     go_wp2
     go_loopg [10] (n - 1) (fun gk i wr => ∃ (k : Nat) (s : Int) (t' : List Int), 1 ≤ k ∧ k ≤ n ∧ gk = n - k ∧ i = .int .i64 k ∧ IRow wr B g n cap t' ∧ w.grownBy wr (some g) ∧ PassTo f4 g4 none tc k (some s) t' ∧ s = t'.getD (k - 1) 0)
     case atStart => exact ⟨1, _, tc, by omega, by omega, by omega, rfl, HI3.out, HG.out, pass4_one (by rw [HL3.out]; exact hn0), rfl⟩
     case round =>
      clear HI3 HG
      obtain ⟨k, a, t', hk1, hk, rfl, rfl, hI, hG, hN, hA⟩ := hrel
      have HI : Hid (IRow wr B g n cap t') := hI
      have HG : Hid (w.grownBy wr (some g)) := hG
      by_cases hlt : k + 1 < n
      ·obtain ⟨j, rfl⟩ : ∃ j, k = j + 1 := ⟨k - 1, by omega⟩
       have hlt' : j + 1 < tc.length := by rw [HL3.out]; omega
       have hlt2 : j + 1 < t'.length := by rw [hI.len]; omega
       have hcell := hI.cell (j + 1) (by omega)
       rw [hN.at (j + 1) (Nat.le_refl _)] at hcell
       have hcell2 := hI.cell (j + 1 + 1) (by omega)
       rw [hN.at (j + 1 + 1) (by omega)] at hcell2
       have hcell0 := hI.cell j (by omega)
       rw [Nat.add_sub_cancel] at hA
       rw [← hA] at hcell0
       have hfr := hI.frozen (j + 1)
       obtain ⟨c, hx⟩ : ∃ c, c = tc.getD (j + 1) 0 := ⟨_, rfl⟩
       obtain ⟨d, hd⟩ : ∃ d, d = tc.getD (j + 1 + 1) 0 := ⟨_, rfl⟩
       rw [← hx] at hcell
       rw [← hd] at hcell2
       have hmid : f4 (some a) c (tc.drop (j + 1 + 1)) = if a = d ∧ ((c = 4 ∧ a = 3) ∨ (c = 7 ∧ (a = 3 ∨ a = 6))) then a else c := by
        rw [drop_at (show j + 1 + 1 < tc.length by rw [HL3.out]; omega), ← hd]; exact f4_mid
       have hit : (a = d ∧ ((c = 4 ∧ a = 3) ∨ (c = 7 ∧ (a = 3 ∨ a = 6)))) → Hid (PassTo f4 g4 none tc (j + 1 + 1) (some a) (t'.set (j + 1) a) ∧ a = (t'.set (j + 1) a).getD (j + 1 + 1 - 1) 0) := fun h =>
        ⟨hN.step hlt' a (some a) (by rw [← hx, hmid, if_pos h]) (by rw [← hx, g4, hmid, if_pos h]), by rw [Nat.add_sub_cancel, hN.prev hlt' a]⟩
       have miss : ¬ (a = d ∧ ((c = 4 ∧ a = 3) ∨ (c = 7 ∧ (a = 3 ∨ a = 6)))) → Hid (PassTo f4 g4 none tc (j + 1 + 1) (some c) t' ∧ c = t'.getD (j + 1 + 1 - 1) 0) := fun h =>
        ⟨hN.stay hlt' (some c) (by rw [← hx, hmid, if_neg h]) (by rw [← hx, g4, hmid, if_neg h]), by rw [Nat.add_sub_cancel, hN.at (j + 1) (Nat.le_refl _), hx]⟩
       clear hI hG hN hA hx hd hmid hlt' hlt2
       by_cases qd' : a = d
       ·have qd : (a == d) = true := by simpa using qd'
        by_cases q4' : c = 4
        ·have q4 : (c == 4) = true := by simpa using q4'
         have q7 : (c == 7) = false := by simp; omega
         by_cases q3' : a = 3
         ·have q3 : (a == 3) = true := by simpa using q3'
          have HS := hit (⟨qd', .inl ⟨q4', q3'⟩⟩)
          clear hit miss qd' q4' q3'
          go_wp2
          go_roundg (n - (j + 1 + 1))
          case measure => omega
          case rel => exact ⟨j + 1 + 1, _, _, by omega, by omega, rfl, by simp, HI.out.set (j + 1) _, HG.out.trans (HI.out.grown (j + 1) _), HS.out.1, HS.out.2⟩
         ·have q3 : (a == 3) = false := by simpa using q3'
          have HS := miss (by omega)
          clear hit miss qd' q4' q3'
          go_wp2
          go_roundg (n - (j + 1 + 1))
          case measure => omega
          case rel => exact ⟨j + 1 + 1, _, _, by omega, by omega, rfl, by simp, HI.out, HG.out, HS.out.1, HS.out.2⟩
        ·have q4 : (c == 4) = false := by simpa using q4'
         by_cases q7' : c = 7
         ·have q7 : (c == 7) = true := by simpa using q7'
          by_cases q3' : a = 3
          ·have q3 : (a == 3) = true := by simpa using q3'
           have HS := hit (⟨qd', .inr ⟨q7', .inl q3'⟩⟩)
           clear hit miss qd' q4' q7' q3'
           go_wp2
           go_roundg (n - (j + 1 + 1))
           case measure => omega
           case rel => exact ⟨j + 1 + 1, _, _, by omega, by omega, rfl, by simp, HI.out.set (j + 1) _, HG.out.trans (HI.out.grown (j + 1) _), HS.out.1, HS.out.2⟩
          ·have q3 : (a == 3) = false := by simpa using q3'
           by_cases q6' : a = 6
           ·have q6 : (a == 6) = true := by simpa using q6'
            have HS := hit (⟨qd', .inr ⟨q7', .inr q6'⟩⟩)
            clear hit miss qd' q4' q7' q3' q6'
            go_wp2
            go_roundg (n - (j + 1 + 1))
            case measure => omega
            case rel => exact ⟨j + 1 + 1, _, _, by omega, by omega, rfl, by simp, HI.out.set (j + 1) _, HG.out.trans (HI.out.grown (j + 1) _), HS.out.1, HS.out.2⟩
           ·have q6 : (a == 6) = false := by simpa using q6'
            have HS := miss (by omega)
            clear hit miss qd' q4' q7' q3' q6'
            go_wp2
            go_roundg (n - (j + 1 + 1))
            case measure => omega
            case rel => exact ⟨j + 1 + 1, _, _, by omega, by omega, rfl, by simp, HI.out, HG.out, HS.out.1, HS.out.2⟩
         ·have q7 : (c == 7) = false := by simpa using q7'
          have HS := miss (by omega)
          clear hit miss qd' q4' q7'
          go_wp2
          go_roundg (n - (j + 1 + 1))
          case measure => omega
          case rel => exact ⟨j + 1 + 1, _, _, by omega, by omega, rfl, by simp, HI.out, HG.out, HS.out.1, HS.out.2⟩
       ·have qd : (a == d) = false := by simpa using qd'
        have HS := miss (by omega)
        clear hit miss qd'
        go_wp2
        go_roundg (n - (j + 1 + 1))
        case measure => omega
        case rel => exact ⟨j + 1 + 1, _, _, by omega, by omega, rfl, by simp, HI.out, HG.out, HS.out.1, HS.out.2⟩
      ·have HE : Hid (t' = pass f4 g4 none tc) := pass4_stop hN (by rw [HL3.out]; exact hlt)
       have HI4 : Hid (IRow wr B g n cap (pass f4 g4 none tc)) := HE.out ▸ hI
       have HL4 : Hid ((pass f4 g4 none tc).length = n) := HI4.out.len
       clear hI hG hN HI HE hA
       generalize hb4 : pass f4 g4 none tc = td at HI4 HL4
       have HB4 : Hid (pass f4 g4 none tc = td) := hb4
       clear hb4
       go_wp2
       go_loopg [12] n (fun gk i wr => ∃ (k : Nat) (s : Option Int) (t' : List Int), k ≤ n ∧ gk = n - k ∧ i = .int .i64 k ∧ IRow wr B g n cap t' ∧ w.grownBy wr (some g) ∧ PassTo f5 g5 none td k s t' ∧ Ahead t' k s)
       case atStart => exact ⟨0, none, td, by omega, rfl, rfl, HI4.out, HG.out, PassTo.start _ _ _ _, Ahead.start _⟩
       case round =>
        clear HI4 HG
        obtain ⟨k, s, t', hk, rfl, rfl, hI, hG, hN, hA⟩ := hrel
        have HI : Hid (IRow wr B g n cap t') := hI
        have HG : Hid (w.grownBy wr (some g)) := hG
        have HN : Hid (PassTo f5 g5 none td k s t') := hN
        have HA : Hid (Ahead t' k s) := hA
        clear hI hG hN hA
        by_cases hlt : k < n
        ·go_wp2
         go_loopg [13] (n - k) (fun gk jv wj => ∃ j : Nat, k ≤ j ∧ j ≤ n ∧ gk = n - j ∧ jv = .int .i64 j ∧ wj = wr ∧ ∀ q, k ≤ q → q < j → td.getD q 0 = 5)
         case atStart => exact ⟨k, by omega, by omega, rfl, rfl, rfl, fun q h1 h2 => by omega⟩
         case round =>
          obtain ⟨j, hkj, hjn, rfl, rfl, hw, hrun⟩ := hrel
          subst hw
          by_cases hjlt : j < n
          ·have hcj := HI.out.cell j hjlt
           rw [HN.out.at j hkj] at hcj
           obtain ⟨c, hx⟩ : ∃ c, c = td.getD j 0 := ⟨_, rfl⟩
           rw [← hx] at hcj
           by_cases h5 : c = 5
           ·have q5 : (c == 5) = true := by simpa using h5
            have HRun : Hid (∀ q, k ≤ q → q < j + 1 → td.getD q 0 = 5) := by
             intro q h1 h2
             rcases Nat.lt_or_ge q j with h | h
             ·exact hrun q h1 h
             ·rw [show q = j by omega, ← hx, h5]
            clear hrun hx h5
            go_wp2
            go_roundg (n - (j + 1))
            case measure => omega
            case rel => exact ⟨j + 1, by omega, by omega, rfl, by simp, rfl, HRun.out⟩
           ·have q5 : (c == 5) = false := by simpa using h5
            by_cases hKj : k < j
            ·have hjT : j ≤ td.length := by rw [HL4.out]; omega
             have HE : Hid (etNext (td.drop j) = (c == 3)) := by rw [hx]; exact etNext_at (by rw [HL4.out]; exact hjlt) (by rw [← hx]; exact h5)
             clear hx h5
             rcases HA.out with ⟨hk0, hs'⟩ | ⟨hk0, hs'⟩
             ·subst hk0
              obtain rfl : s = none := hs'
              by_cases hc3 : c = 3
              ·have qc : (c == 3) = true := by simpa using hc3
               have HS : Hid _ := run5_filled HN.out hrun hjT hKj (.inr (by rw [HE.out, hc3]; rfl))
               clear hrun hjT
               go_wp2
               go_loopg [14] (j - 0) (fun gk qv wq => ∃ m : Nat, 0 + m ≤ j ∧ gk = j - 0 - m ∧ qv = .int .i64 ((0 + m : Nat) : Int) ∧ IRow wq B g n cap (fill3 t' 0 m) ∧ w.grownBy wq (some g))
               case atStart => exact ⟨0, by omega, rfl, rfl, HI.out, HG.out⟩
               case round =>
                obtain ⟨m, hm, rfl, rfl, hIq, hGq⟩ := hrel
                have HIq : Hid (IRow wr B g n cap (fill3 t' 0 m)) := hIq
                have HGq : Hid (w.grownBy wr (some g)) := hGq
                by_cases hmj : 0 + m < j
                ·have hfq := hIq.frozen (0 + m)
                 have hcq := hIq.cell (0 + m) (by omega)
                 generalize (fill3 t' 0 m).getD (0 + m) 0 = cq at hcq
                 clear hIq hGq
                 obtain ⟨q, hq⟩ : ∃ q, q = 0 + m := ⟨_, rfl⟩
                 have HQ : Hid (q = 0 + m) := hq
                 rw [← hq] at hfq hcq hmj ⊢
                 clear hq
                 go_wp2
                 go_roundg (j - 0 - (m + 1))
                 case measure => have := HQ.out; omega
                 case rel =>
                  refine ⟨m + 1, by have := HQ.out; omega, rfl, by have := HQ.out; simp; omega, ?_, ?_⟩
                  ·rw [HQ.out]; exact HIq.out.set (0 + m) 3
                  ·exact HGq.out.trans (HIq.out.grown q 3)
                ·obtain rfl : j = m := by omega
                 clear hIq hGq
                 have hkm : 0 + j = j := by omega
                 rw [hkm]
                 clear hkm
                 go_wp2
                 go_roundg (n - j)
                 case measure => omega
                 case rel => exact ⟨j, _, _, by omega, rfl, by simp, HIq.out, HGq.out, HS.out.1, HS.out.2⟩
              ·have qc : (c == 3) = false := by simpa using hc3
               have HS : Hid _ := run5_keptA HN.out hrun hjT hKj (by simp) (by rw [HE.out]; exact qc)
               clear hrun hjT
               go_wp2
               go_roundg (n - j)
               case measure => omega
               case rel => exact ⟨j, _, _, by omega, rfl, by simp, HI.out, HG.out, HS.out.1, HS.out.2⟩
             ·obtain ⟨k', rfl⟩ : ∃ k', k = k' + 1 := ⟨k - 1, by omega⟩
              obtain ⟨p, hp⟩ : ∃ p, p = t'.getD k' 0 := ⟨_, rfl⟩
              have hcp := HI.out.cell k' (by omega)
              rw [← hp] at hcp
              obtain rfl : s = some p := by rw [hs', Nat.add_sub_cancel, hp]
              clear hp hs'
              by_cases hp3 : p = 3
              ·have qp : (p == 3) = true := by simpa using hp3
               have HS : Hid _ := run5_filled HN.out hrun hjT hKj (.inl (by rw [hp3]))
               clear hrun hjT
               go_wp2
               go_loopg [14] (j - (k' + 1)) (fun gk qv wq => ∃ m : Nat, (k' + 1) + m ≤ j ∧ gk = j - (k' + 1) - m ∧ qv = .int .i64 (((k' + 1) + m : Nat) : Int) ∧ IRow wq B g n cap (fill3 t' (k' + 1) m) ∧ w.grownBy wq (some g))
               case atStart => exact ⟨0, by omega, rfl, rfl, HI.out, HG.out⟩
               case round =>
                obtain ⟨m, hm, rfl, rfl, hIq, hGq⟩ := hrel
                have HIq : Hid (IRow wr B g n cap (fill3 t' (k' + 1) m)) := hIq
                have HGq : Hid (w.grownBy wr (some g)) := hGq
                by_cases hmj : (k' + 1) + m < j
                ·have hfq := hIq.frozen ((k' + 1) + m)
                 have hcq := hIq.cell ((k' + 1) + m) (by omega)
                 generalize (fill3 t' (k' + 1) m).getD ((k' + 1) + m) 0 = cq at hcq
                 clear hIq hGq
                 obtain ⟨q, hq⟩ : ∃ q, q = (k' + 1) + m := ⟨_, rfl⟩
                 have HQ : Hid (q = (k' + 1) + m) := hq
                 rw [← hq] at hfq hcq hmj ⊢
                 clear hq
                 go_wp2
                 go_roundg (j - (k' + 1) - (m + 1))
                 case measure => have := HQ.out; omega
                 case rel =>
                  refine ⟨m + 1, by have := HQ.out; omega, rfl, by have := HQ.out; simp; omega, ?_, ?_⟩
                  ·rw [HQ.out]; exact HIq.out.set ((k' + 1) + m) 3
                  ·exact HGq.out.trans (HIq.out.grown q 3)
                ·obtain rfl : m = j - (k' + 1) := by omega
                 clear hIq hGq
                 have hkm : (k' + 1) + (j - (k' + 1)) = j := by omega
                 rw [hkm]
                 clear hkm
                 go_wp2
                 go_roundg (n - j)
                 case measure => omega
                 case rel => exact ⟨j, _, _, by omega, rfl, by simp, HIq.out, HGq.out, HS.out.1, HS.out.2⟩
              ·have qp : (p == 3) = false := by simpa using hp3
               by_cases hc3 : c = 3
               ·have qc : (c == 3) = true := by simpa using hc3
                have HS : Hid _ := run5_filled HN.out hrun hjT hKj (.inr (by rw [HE.out, hc3]; rfl))
                clear hrun hjT
                go_wp2
                go_loopg [14] (j - (k' + 1)) (fun gk qv wq => ∃ m : Nat, (k' + 1) + m ≤ j ∧ gk = j - (k' + 1) - m ∧ qv = .int .i64 (((k' + 1) + m : Nat) : Int) ∧ IRow wq B g n cap (fill3 t' (k' + 1) m) ∧ w.grownBy wq (some g))
                case atStart => exact ⟨0, by omega, rfl, rfl, HI.out, HG.out⟩
                case round =>
                 obtain ⟨m, hm, rfl, rfl, hIq, hGq⟩ := hrel
                 have HIq : Hid (IRow wr B g n cap (fill3 t' (k' + 1) m)) := hIq
                 have HGq : Hid (w.grownBy wr (some g)) := hGq
                 by_cases hmj : (k' + 1) + m < j
                 ·have hfq := hIq.frozen ((k' + 1) + m)
                  have hcq := hIq.cell ((k' + 1) + m) (by omega)
                  generalize (fill3 t' (k' + 1) m).getD ((k' + 1) + m) 0 = cq at hcq
                  clear hIq hGq
                  obtain ⟨q, hq⟩ : ∃ q, q = (k' + 1) + m := ⟨_, rfl⟩
                  have HQ : Hid (q = (k' + 1) + m) := hq
                  rw [← hq] at hfq hcq hmj ⊢
                  clear hq
                  go_wp2
                  go_roundg (j - (k' + 1) - (m + 1))
                  case measure => have := HQ.out; omega
                  case rel =>
                   refine ⟨m + 1, by have := HQ.out; omega, rfl, by have := HQ.out; simp; omega, ?_, ?_⟩
                   ·rw [HQ.out]; exact HIq.out.set ((k' + 1) + m) 3
                   ·exact HGq.out.trans (HIq.out.grown q 3)
                 ·obtain rfl : m = j - (k' + 1) := by omega
                  clear hIq hGq
                  have hkm : (k' + 1) + (j - (k' + 1)) = j := by omega
                  rw [hkm]
                  clear hkm
                  go_wp2
                  go_roundg (n - j)
                  case measure => omega
                  case rel => exact ⟨j, _, _, by omega, rfl, by simp, HIq.out, HGq.out, HS.out.1, HS.out.2⟩
               ·have qc : (c == 3) = false := by simpa using hc3
                have HS : Hid _ := run5_keptA HN.out hrun hjT hKj (by simpa using hp3) (by rw [HE.out]; exact qc)
                clear hrun hjT
                go_wp2
                go_roundg (n - j)
                case measure => omega
                case rel => exact ⟨j, _, _, by omega, rfl, by simp, HI.out, HG.out, HS.out.1, HS.out.2⟩
            ·obtain rfl : j = k := by omega
             have HS : Hid (PassTo f5 g5 none td (j + 1) (some c) t' ∧ Ahead t' (j + 1) (some c)) := by rw [hx]; exact run5_one HN.out (by rw [HL4.out]; exact hjlt) (by rw [← hx]; exact h5)
             clear hx h5 hrun
             go_wp2
             go_roundg (n - (j + 1))
             case measure => omega
             case rel => exact ⟨j + 1, _, _, by omega, rfl, by simp, HI.out, HG.out, HS.out.1, HS.out.2⟩
          ·have hjT : j ≤ td.length := by rw [HL4.out]; omega
           have hKj : k < j := by omega
           have HE : Hid (etNext (td.drop j) = false) := etNext_end (by rw [HL4.out]; exact hjlt)
           rcases HA.out with ⟨hk0, hs'⟩ | ⟨hk0, hs'⟩
           ·subst hk0
            obtain rfl : s = none := hs'
            have HS : Hid _ := run5_keptA HN.out hrun hjT hKj (by simp) (HE.out)
            clear hrun hjT
            go_wp2
            go_roundg (n - j)
            case measure => omega
            case rel => exact ⟨j, _, _, by omega, rfl, by simp, HI.out, HG.out, HS.out.1, HS.out.2⟩
           ·obtain ⟨k', rfl⟩ : ∃ k', k = k' + 1 := ⟨k - 1, by omega⟩
            obtain ⟨p, hp⟩ : ∃ p, p = t'.getD k' 0 := ⟨_, rfl⟩
            have hcp := HI.out.cell k' (by omega)
            rw [← hp] at hcp
            obtain rfl : s = some p := by rw [hs', Nat.add_sub_cancel, hp]
            clear hp hs'
            by_cases hp3 : p = 3
            ·have qp : (p == 3) = true := by simpa using hp3
             have HS : Hid _ := run5_filled HN.out hrun hjT hKj (.inl (by rw [hp3]))
             clear hrun hjT
             go_wp2
             go_loopg [14] (j - (k' + 1)) (fun gk qv wq => ∃ m : Nat, (k' + 1) + m ≤ j ∧ gk = j - (k' + 1) - m ∧ qv = .int .i64 (((k' + 1) + m : Nat) : Int) ∧ IRow wq B g n cap (fill3 t' (k' + 1) m) ∧ w.grownBy wq (some g))
             case atStart => exact ⟨0, by omega, rfl, rfl, HI.out, HG.out⟩
             case round =>
              obtain ⟨m, hm, rfl, rfl, hIq, hGq⟩ := hrel
              have HIq : Hid (IRow wr B g n cap (fill3 t' (k' + 1) m)) := hIq
              have HGq : Hid (w.grownBy wr (some g)) := hGq
              by_cases hmj : (k' + 1) + m < j
              ·have hfq := hIq.frozen ((k' + 1) + m)
               have hcq := hIq.cell ((k' + 1) + m) (by omega)
               generalize (fill3 t' (k' + 1) m).getD ((k' + 1) + m) 0 = cq at hcq
               clear hIq hGq
               obtain ⟨q, hq⟩ : ∃ q, q = (k' + 1) + m := ⟨_, rfl⟩
               have HQ : Hid (q = (k' + 1) + m) := hq
               rw [← hq] at hfq hcq hmj ⊢
               clear hq
               go_wp2
               go_roundg (j - (k' + 1) - (m + 1))
               case measure => have := HQ.out; omega
               case rel =>
                refine ⟨m + 1, by have := HQ.out; omega, rfl, by have := HQ.out; simp; omega, ?_, ?_⟩
                ·rw [HQ.out]; exact HIq.out.set ((k' + 1) + m) 3
                ·exact HGq.out.trans (HIq.out.grown q 3)
              ·obtain rfl : m = j - (k' + 1) := by omega
               clear hIq hGq
               have hkm : (k' + 1) + (j - (k' + 1)) = j := by omega
               rw [hkm]
               clear hkm
               go_wp2
               go_roundg (n - j)
               case measure => omega
               case rel => exact ⟨j, _, _, by omega, rfl, by simp, HIq.out, HGq.out, HS.out.1, HS.out.2⟩
            ·have qp : (p == 3) = false := by simpa using hp3
             have HS : Hid _ := run5_keptA HN.out hrun hjT hKj (by simpa using hp3) (HE.out)
             clear hrun hjT
             go_wp2
             go_roundg (n - j)
             case measure => omega
             case rel => exact ⟨j, _, _, by omega, rfl, by simp, HI.out, HG.out, HS.out.1, HS.out.2⟩
        ·have HE : Hid (t' = pass f5 g5 none td) := HN.out.stop (by rw [HL4.out]; exact hlt)
         have HI5 : Hid (IRow wr B g n cap (pass f5 g5 none td)) := HE.out ▸ HI.out
         have HL5 : Hid ((pass f5 g5 none td).length = n) := HI5.out.len
         clear HN HI HE HA
         generalize hb5 : pass f5 g5 none td = te at HI5 HL5
         have HB5 : Hid (pass f5 g5 none td = te) := hb5
         clear hb5
         go_wp2
         go_loopg [15] n (fun gk i wr => ∃ (k : Nat) (t' : List Int), k ≤ n ∧ gk = n - k ∧ i = .int .i64 k ∧ IRow wr B g n cap t' ∧ w.grownBy wr (some g) ∧ PassTo f6 g3 () te k () t')
         case atStart => exact ⟨0, te, by omega, rfl, rfl, HI5.out, HG.out, PassTo.start _ _ _ _⟩
         case round =>
          clear HI5 HG
          obtain ⟨k, t', hk, rfl, rfl, hI, hG, hN⟩ := hrel
          have HI : Hid (IRow wr B g n cap t') := hI
          have HG : Hid (w.grownBy wr (some g)) := hG
          by_cases hlt : k < n
          ·have hlt' : k < te.length := by rw [HL5.out]; exact hlt
           have hcell := hI.cell k hlt
           rw [hN.at k (Nat.le_refl _)] at hcell
           have hfr := hI.frozen k
           obtain ⟨c, hx⟩ : ∃ c, c = te.getD k 0 := ⟨_, rfl⟩
           rw [← hx] at hcell
           have hit : (c = 4 ∨ c = 5 ∨ c = 7) → Hid (PassTo f6 g3 () te (k + 1) () (t'.set k 12)) := fun h => hN.step hlt' 12 () (by rw [← hx, f6_hit h]) rfl
           have miss : ¬ (c = 4 ∨ c = 5 ∨ c = 7) → Hid (PassTo f6 g3 () te (k + 1) () t') := fun h => hN.stay hlt' () (by rw [← hx, f6_not h]) rfl
           clear hI hG hN hx hlt'
           by_cases h4 : c = 4
           ·have HS := hit (.inl h4)
            have q4 : (c == 4) = true := by simpa using h4
            clear hit miss h4
            go_wp2
            go_roundg (n - (k + 1))
            case measure => omega
            case rel => exact ⟨k + 1, _, by omega, rfl, by simp, HI.out.set k _, HG.out.trans (HI.out.grown k _), HS.out⟩
           have q4 : (c == 4) = false := by simpa using h4
           by_cases h5 : c = 5
           ·have HS := hit (.inr (.inl h5))
            have q5 : (c == 5) = true := by simpa using h5
            clear hit miss h4 h5
            go_wp2
            go_roundg (n - (k + 1))
            case measure => omega
            case rel => exact ⟨k + 1, _, by omega, rfl, by simp, HI.out.set k _, HG.out.trans (HI.out.grown k _), HS.out⟩
           have q5 : (c == 5) = false := by simpa using h5
           by_cases h7 : c = 7
           ·have HS := hit (.inr (.inr h7))
            have q7 : (c == 7) = true := by simpa using h7
            clear hit miss h4 h5 h7
            go_wp2
            go_roundg (n - (k + 1))
            case measure => omega
            case rel => exact ⟨k + 1, _, by omega, rfl, by simp, HI.out.set k _, HG.out.trans (HI.out.grown k _), HS.out⟩
           have q7 : (c == 7) = false := by simpa using h7
           have HS := miss (by omega)
           clear hit miss h4 h5 h7
           go_wp2
           go_roundg (n - (k + 1))
           case measure => omega
           case rel => exact ⟨k + 1, _, by omega, rfl, by simp, HI.out, HG.out, HS.out⟩
          ·have HE : Hid (t' = pass f6 g3 () te) := hN.stop (by rw [HL5.out]; exact hlt)
           have HW : Hid (weakL sos t = numL 0 0 sos (pass f6 g3 () te)) := by show weakL sos t = _; unfold weakL; rw [HB2.out, HB3.out, HB4.out, HB5.out]
           clear hI hG hN
           go_wp2_with fail
           refine (refnumbers_row (pass f6 g3 () te) sos 0 0 B g n cap wr (HE.out ▸ HI.out) hn).mono ?_
           rintro e w2 ⟨rfl, hI2, hG2⟩
           have HI2 : Hid _ := hI2
           have HG2 : Hid (w.grownBy w2 (some g)) := HG.out.trans hG2
           clear hI2 hG2 HI HG HE
           go_wp2
           go_end0
           exact ⟨rfl, HW.out ▸ HI2.out, HG2.out⟩
end Go.Proofs.YtkbinfhclaafhaaGreatDoor
