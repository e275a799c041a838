import Derived.Test.YtkbinfhclaafhaaGreatDoorM18
import Derived.Deep.RegionWith
import Derived.Test.YtkbinfhclaafhaaGreatDoorM12
import Derived.Test.YtkbinfhclaafhaaGreatDoorM13
import Derived.Test.YtkbinfhclaafhaaGreatDoorM10
import Derived.Test.YtkbinfhclaafhaaGreatDoorM09
import Derived.Test.YtkbinfhclaafhaaGreatDoorM11
import Derived.ChangeKeysEq
import Derived.Deep.RegionHeld3
import Derived.Deep.DrawnRows
import Derived.Test.YtkbinfhclaafhaaGreatDoorM01
import Derived.Lib.TrimU
import Derived.Laws.BitsAllLaws
namespace Go.Proofs.YtkbinfhclaafhaaGreatDoor
open Go.RowKit
theorem SqC.setOther {w : World} {B sb gc n cc : Nat} {pv rv bv : Value} {lev sos eos : Int} {t : List Int} (h : SqC w B sb gc n cc pv rv bv lev sos eos t) {g : Nat} (h1 : sb ≠ g) (h2 : gc ≠ g) (k : Nat) (u : Value) : SqC (w.setCell ⟨g, k, none⟩ u) B sb gc n cc pv rv bv lev sos eos t :=
 ⟨by rw [Below.heap_setCell _ _ _ _ h1]; exact h.cell, row_set h.row (by simpa [Value.ownBlock] using h2) k u⟩
set_option maxRecDepth 100000 in
set_option maxHeartbeats 16000000 in
theorem setImpl_row (w : World) (B sb gc m cc gp op cp : Nat) (rv bv : Value) (lev sos eos : Int) (t : List Int) (at' : List Nat) (B' go n : Nat) (o : List Int) (hS : SqC w B sb gc m cc (.slice (some ⟨gp, op, none⟩) m cp) rv bv lev sos eos t) (hP : IntsAt w gp op (nl at')) (hl : at'.length = m) (hR : IRow w B' go n n o) (hap : sb ≠ go ∧ gc ≠ go ∧ gp ≠ go)
  (hat : ∀ p ∈ at', p < n) (hm : m ≤ 1000) (hlev : 0 ≤ lev) (ho : ∀ p, 0 ≤ o.getD p 0 ∧ o.getD p 0 ≤ 1000) :
  Calls Tryz.prog 88 #[.pointer (some ⟨sb, 0, none⟩), .slice (some ⟨go, 0, none⟩) n n] w fun e w' => e = .returned (.tuple #[]) ∧ IRow w' B' go n n ((trip at' lev t).foldl addF o) ∧ w.grownBy w' (some go) := by
 have c0 : w.cell? ⟨sb, 0, none⟩ = some (.slice (some ⟨gp, op, none⟩) m cp) := heap_cell hS.cell 0
 have HS0 : Hid (SqC w B sb gc m cc (.slice (some ⟨gp, op, none⟩) m cp) rv bv lev sos eos t) := hS
 have HP0 : Hid (IntsAt w gp op (nl at')) := hP
 have HR0 : Hid (IRow w B' go n n o) := hR
 have HL : Hid (at'.length = m ∧ t.length = m) := ⟨hl, hS.len⟩
 have HA : Hid (∀ p ∈ at', p < n) := hat
 have HO : Hid (∀ p, 0 ≤ o.getD p 0 ∧ o.getD p 0 ≤ 1000) := ho
 have HN : Hid (sb ≠ go ∧ gc ≠ go ∧ gp ≠ go) := hap
 clear hS hP hR hl hat ho hap
 go_enter Tryz.func88, Tryz.ntmps88
 go_wp2
 clear c0
 go_loopg [11] m (fun gk iv W => ∃ (j : Nat) (o' : List Int), j ≤ m ∧ gk = m - j ∧ iv = .int .i64 j ∧ SqC W B sb gc m cc (.slice (some ⟨gp, op, none⟩) m cp) rv bv lev sos eos t ∧ IntsAt W gp op (nl at') ∧ IRow W B' go n n o' ∧ w.grownBy W (some go) ∧ o' = ((trip at' lev t).take j).foldl addF o ∧ ∀ p, 0 ≤ o'.getD p 0 ∧ o'.getD p 0 ≤ 1000 + 2 * j)
 case atStart => exact ⟨0, o, by omega, rfl, rfl, HS0.out, HP0.out, HR0.out, World.grownBy.refl _ _, rfl, fun p => by have := HO.out p; omega⟩
 case round =>
  clear HS0 HP0 HR0 HO
  obtain ⟨j, o', hj, rfl, rfl, hS, hP, hR, hG, hE, hB⟩ := hrel
  by_cases hlt : j < m
  ·have hja : j < at'.length := by rw [HL.out.1]; exact hlt
   have cp' : wr.cell? ⟨gp, op + j, none⟩ = some (.int .i64 ((at'.getD j 0 : Nat) : Int)) := by
    have := hP j (by rw [nl_length]; exact hja)
    rw [nl_getD _ _ hja] at this
    exact this
   have hpn : at'.getD j 0 < n := HA.out _ (getD_mem hja)
   have cr := hR.cell _ hpn
   have fr := hR.frozen (at'.getD j 0)
   have c2 := hS.f2
   have c4 := hS.f4
   have ck := hS.at j hlt
   have hq := hB (at'.getD j 0)
   have hjn : (j : Int) < (m : Int) := by omega
   have hpn' : ((at'.getD j 0 : Nat) : Int) < (n : Int) := by omega
   have hrs := riseS_le lev (t.getD j 0)
   have HRi : Hid (∀ W, Calls Tryz.prog 159 #[.int .i64 lev, .int .i64 (t.getD j 0)] W fun e w' => e = .returned (.int .i64 (riseS lev (t.getD j 0))) ∧ w' = W) := fun W => rise_any lev _ W hlev
   have hE2 : ((trip at' lev t).take (j + 1)).foldl addF o = o'.set (at'.getD j 0) (o'.getD (at'.getD j 0) 0 + riseS lev (t.getD j 0)) := by
    rw [trip_take' at' lev t j hja (by rw [HL.out.2]; exact hlt), List.foldl_append, ← hE]; rfl
   have hR2 : IRow (wr.setCell ⟨go, at'.getD j 0, none⟩ (.int .i64 (o'.getD (at'.getD j 0) 0 + riseS lev (t.getD j 0)))) B' go n n (o'.set (at'.getD j 0) (o'.getD (at'.getD j 0) 0 + riseS lev (t.getD j 0))) := hR.set _ _
   have hS2 : SqC (wr.setCell ⟨go, at'.getD j 0, none⟩ (.int .i64 (o'.getD (at'.getD j 0) 0 + riseS lev (t.getD j 0)))) B sb gc m cc (.slice (some ⟨gp, op, none⟩) m cp) rv bv lev sos eos t := hS.setOther HN.out.1 HN.out.2.1 _ _
   have hP2 : IntsAt (wr.setCell ⟨go, at'.getD j 0, none⟩ (.int .i64 (o'.getD (at'.getD j 0) 0 + riseS lev (t.getD j 0)))) gp op (nl at') := hP.ofBlock (Below.heap_setCell _ _ _ _ HN.out.2.2)
   have hG2 : w.grownBy (wr.setCell ⟨go, at'.getD j 0, none⟩ (.int .i64 (o'.getD (at'.getD j 0) 0 + riseS lev (t.getD j 0)))) (some go) := hG.trans (hR.grown _ _)
   have hB2 : ∀ p, 0 ≤ (o'.set (at'.getD j 0) (o'.getD (at'.getD j 0) 0 + riseS lev (t.getD j 0))).getD p 0 ∧ (o'.set (at'.getD j 0) (o'.getD (at'.getD j 0) 0 + riseS lev (t.getD j 0))).getD p 0 ≤ 1000 + 2 * ((j + 1 : Nat) : Int) := fun p => by
    by_cases hp : at'.getD j 0 = p
    ·rw [← hp, getD_set_self (by rw [hR.len]; exact hpn)]; omega
    ·rw [getD_set_ne hp]; have := hB p; omega
   have H2 : Hid (SqC (wr.setCell ⟨go, at'.getD j 0, none⟩ (.int .i64 (o'.getD (at'.getD j 0) 0 + riseS lev (t.getD j 0)))) B sb gc m cc (.slice (some ⟨gp, op, none⟩) m cp) rv bv lev sos eos t ∧ IntsAt (wr.setCell ⟨go, at'.getD j 0, none⟩ (.int .i64 (o'.getD (at'.getD j 0) 0 + riseS lev (t.getD j 0)))) gp op (nl at') ∧ IRow (wr.setCell ⟨go, at'.getD j 0, none⟩ (.int .i64 (o'.getD (at'.getD j 0) 0 + riseS lev (t.getD j 0)))) B' go n n (o'.set (at'.getD j 0) (o'.getD (at'.getD j 0) 0 + riseS lev (t.getD j 0))) ∧ w.grownBy (wr.setCell ⟨go, at'.getD j 0, none⟩ (.int .i64 (o'.getD (at'.getD j 0) 0 + riseS lev (t.getD j 0)))) (some go)) := ⟨hS2, hP2, hR2, hG2⟩
   have HE2 : Hid (o'.set (at'.getD j 0) (o'.getD (at'.getD j 0) 0 + riseS lev (t.getD j 0)) = ((trip at' lev t).take (j + 1)).foldl addF o ∧ ∀ p, 0 ≤ (o'.set (at'.getD j 0) (o'.getD (at'.getD j 0) 0 + riseS lev (t.getD j 0))).getD p 0 ∧ (o'.set (at'.getD j 0) (o'.getD (at'.getD j 0) 0 + riseS lev (t.getD j 0))).getD p 0 ≤ 1000 + 2 * ((j + 1 : Nat) : Int)) := ⟨hE2.symm, hB2⟩
   have hq1 := hq.1
   have hq2 : o'.getD (at'.getD j 0) 0 ≤ 3000 := by omega
   have hr1 := hrs.1
   have hr2 := hrs.2
   clear hS hP hR hG hE hB hE2 hR2 hS2 hP2 hG2 hB2 hq hrs
   generalize riseS lev (t.getD j 0) = ri at *
   generalize t.getD j 0 = c at *
   generalize o'.getD (at'.getD j 0) 0 = q at *
   generalize at'.getD j 0 = p at *
   go_wp2_with fail
   go_region_with (go_at_call 159; refine (HRi.out _).mono ?_; rintro ev wx ⟨rfl, hx⟩; subst hx)
   all_goals
    go_wp2
    go_roundg (m - (j + 1))
    case measure => omega
    case rel => exact ⟨j + 1, _, by omega, rfl, by go_num, H2.out.1.below (Below.refl _ _).drew, H2.out.2.1, own_grown H2.out.2.2.1 (drew_grown (r := none)) (.inr (by simp [Value.ownBlock])), H2.out.2.2.2.trans drew_grown, HE2.out.1, HE2.out.2⟩
  ·obtain rfl : j = m := by omega
   have hkn : ¬ (j : Int) < (j : Int) := by omega
   have e : o' = (trip at' lev t).foldl addF o := by rw [hE, List.take_of_length_le (by rw [trip, List.length_map, List.length_zip, HL.out.1, HL.out.2]; omega)]
   have HR : Hid (IRow wr B' go n n ((trip at' lev t).foldl addF o)) := by rw [← e]; exact hR
   have HG : Hid (w.grownBy wr (some go)) := hG
   clear hS hP hR hG hE hB e
   go_wp2
   go_end0
   exact ⟨rfl, HR.out, HG.out⟩
end Go.Proofs.YtkbinfhclaafhaaGreatDoor
namespace Go.Proofs.YtkbinfhclaafhaaGreatDoor
open Go.RowKit
theorem nxtM_run {eos : Int} {td : List Int} {j : Nat} (hj : j ≤ td.length) : ∀ m a, a + m = j → (∀ q, a ≤ q → q < j → neutB (td.getD q 0) = true) → nxtM eos (td.drop a) = nxtM eos (td.drop j)
 | 0, a, h, _ => by rw [← h]; rfl
 | m + 1, a, h, hr => by
  rw [drop_at (show a < td.length by omega), nxtM, if_pos (hr a (Nat.le_refl _) (by omega))]
  exact nxtM_run hj m (a + 1) (by omega) (fun q h1 h2 => hr q (by omega) h2)
theorem runM_fill {eos sos : Int} {td t' : List Int} {k j : Nat} {s : Int} (h : PassTo (fM eos) gM sos td k s t') (hrun : ∀ q, k ≤ q → q < j → neutB (td.getD q 0) = true) (hj : j ≤ td.length) (hd : s = nxtM eos (td.drop j)) :
  ∀ m, k + m ≤ j → PassTo (fM eos) gM sos td (k + m) s (fillV t' k s m)
 | 0, _ => h
 | m + 1, hm => by
  have h1 := runM_fill h hrun hj hd m (by omega)
  have hs := hrun (k + m) (by omega) (by omega)
  refine h1.step (by omega) s s ?_ ?_
  ·rw [fM, if_pos hs, nxtM_run hj (j - (k + m + 1)) (k + m + 1) (by omega) (fun q h1 h2 => hrun q (by omega) h2), if_pos hd]
  ·rw [gM, if_pos hs]
theorem runM_kept {eos sos : Int} {td t' : List Int} {k j : Nat} {s : Int} (h : PassTo (fM eos) gM sos td k s t') (hrun : ∀ q, k ≤ q → q < j → neutB (td.getD q 0) = true) (hj : j ≤ td.length) (hd : ¬ s = nxtM eos (td.drop j)) :
  ∀ m, k + m ≤ j → PassTo (fM eos) gM sos td (k + m) s t'
 | 0, _ => h
 | m + 1, hm => by
  have h1 := runM_kept h hrun hj hd m (by omega)
  have hs := hrun (k + m) (by omega) (by omega)
  refine h1.stay (by omega) s ?_ ?_
  ·rw [fM, if_pos hs, nxtM_run hj (j - (k + m + 1)) (k + m + 1) (by omega) (fun q h1 h2 => hrun q (by omega) h2), if_neg hd]
  ·rw [gM, if_pos hs]
theorem runM_one {eos sos : Int} {td t' : List Int} {k : Nat} {s : Int} (h : PassTo (fM eos) gM sos td k s t') (hk : k < td.length) (hs : ¬ neutB (td.getD k 0) = true) : PassTo (fM eos) gM sos td (k + 1) (strongS (td.getD k 0)) t' :=
 h.stay hk _ (by rw [fM, if_neg hs]) (by rw [gM, if_neg hs])
section
variable (w : World) (B sb gc n cc bx : Nat) (pv rv bv : Value) (lev sos eos : Int) (t : List Int)
def JN (a : Nat) (t' : List Int) (W : World) : Prop := ∃ s, SqC W B sb gc n cc pv rv bv lev sos eos t' ∧ W.heap[bx]? = some (.cells #[.pointer (some ⟨sb, 0, none⟩)] 146 (0, 0)) ∧ w.grownBy W (some gc) ∧ PassTo (fM eos) gM sos t (min a n) s t' ∧ ((a = 0 ∧ s = sos) ∨ (0 < a ∧ (a ≤ n → s = strongS (t'.getD (a - 1) 0))))
theorem n1_law (hn : n ≤ 1000) (hl : t.length = n) (hso : strongS sos = sos) (hbz : bx < w.heap.size) : RowLaw n 214 216 #[.pointer (some ⟨bx, 0, none⟩)] #[.pointer (some ⟨bx, 0, none⟩)] (JN w B sb gc n cc bx pv rv bv lev sos eos t) (fun t' i => neutB (t'.getD i 0)) := by
 refine ⟨?_, ?_, ?_⟩
 ·rintro t' a W i ⟨s, hS, hB, hG, hN, hA⟩ _ hi
  rw [app1]
  refine (isNeut_any W B sb gc n cc bx pv rv bv lev sos eos t' hS hB i hi).mono ?_
  rintro e W' ⟨rfl, rfl⟩
  exact ⟨rfl, s, hS, hB, hG, hN, hA⟩
 ·rintro t' a W ⟨s, hS, hB, hG, hN, hA⟩ ha hq
  rw [Nat.min_eq_left (by omega)] at hN
  have e := hN.at a (Nat.le_refl _)
  have h5 : ¬ neutB (t.getD a 0) = true := by
   rw [← e]
   simpa using hq
  exact ⟨t', strongS (t.getD a 0), hS, hB, hG, by rw [Nat.min_eq_left (by omega)]; exact runM_one hN (by omega) h5, .inr ⟨by omega, fun _ => by rw [Nat.add_sub_cancel, e]⟩⟩
 ·rintro t' a b W ⟨s, hS, hB, hG, hN, hA⟩ hab hbn hall hend
  rw [Nat.min_eq_left (by omega)] at hN
  have hrun : ∀ q, a ≤ q → q < b → neutB (t.getD q 0) = true := fun q h1 h2 => by
   rw [← hN.at q h1]
   exact hall q h1 h2
  have hb5 : b < n → ¬ neutB (t.getD b 0) = true := fun h => by
   rw [← hN.at b (by omega)]
   simpa using hend h
  have hx : strongS (atP sos eos t' ((a : Int) - 1)) = s := by
   rcases hA with ⟨rfl, rfl⟩ | ⟨h0, h1⟩
   ·rw [show ((0 : Nat) : Int) - 1 = -1 from rfl, atP, if_pos (by decide)]
    exact hso
   ·rw [h1 (by omega), atP, if_neg (by omega), if_neg (by rw [hS.len]; omega), show ((a : Int) - 1).toNat = a - 1 by omega]
  have hy : strongS (atP sos eos t' (b : Int)) = nxtM eos (t.drop b) := by
   by_cases hb : b < n
   ·rw [atP, if_neg (by omega), if_neg (by rw [hS.len]; omega), Int.toNat_natCast, hN.at b (by omega), drop_at (show b < t.length by omega), nxtM, if_neg (hb5 hb)]
   ·rw [atP, if_neg (by omega), if_pos (by rw [hS.len]; omega), List.drop_eq_nil_of_le (by omega)]; rfl
  rw [app2]
  refine (tellNeut_any W B sb gc n cc bx pv rv bv lev sos eos t' hS hn hB a b (by omega) hbn).mono ?_
  rintro e W' ⟨rfl, hS', hG'⟩
  have hB' : W'.heap[bx]? = some (.cells #[.pointer (some ⟨sb, 0, none⟩)] 146 (0, 0)) := by
   rw [hG'.block bx (Nat.lt_of_lt_of_le hbz hG.size) (fun e => (hS.boxed hB) (Option.some.inj e).symm)]
   exact hB
  have key : ∀ t2, t2 = (if strongS (atP sos eos t' ((a : Int) - 1)) = strongS (atP sos eos t' (b : Int)) then fillV t' a (strongS (atP sos eos t' ((a : Int) - 1))) (b - a) else t') → PassTo (fM eos) gM sos t b s t2 → ∃ x', JN w B sb gc n cc bx pv rv bv lev sos eos t (b + 1) x' W' := by
   rintro t2 rfl h1
   by_cases hb : b < n
   ·refine ⟨_, strongS (t.getD b 0), hS', hB', hG.trans hG', by rw [Nat.min_eq_left (by omega)]; exact runM_one h1 (by omega) (hb5 hb), .inr ⟨by omega, fun _ => ?_⟩⟩
    rw [Nat.add_sub_cancel, h1.at b (Nat.le_refl _)]
   ·have e : min (b + 1) n = b := by omega
    exact ⟨_, s, hS', hB', hG.trans hG', by rw [e]; exact h1, .inr ⟨by omega, fun h => by omega⟩⟩
  refine ⟨rfl, ?_⟩
  by_cases hc : s = nxtM eos (t.drop b)
  ·have := runM_fill hN hrun (by omega) hc (b - a) (by omega)
   rw [show a + (b - a) = b by omega] at this
   exact key _ (by rw [if_pos (by rw [hx, hy]; exact hc), hx]) this
  ·have := runM_kept hN hrun (by omega) hc (b - a) (by omega)
   rw [show a + (b - a) = b by omega] at this
   exact key _ (by rw [if_neg (by rw [hx, hy]; exact hc)]) this
end
set_option maxRecDepth 100000 in
set_option maxHeartbeats 4000000 in
theorem n1_row (w : World) (B sb gc n cc : Nat) (pv rv bv : Value) (lev sos eos : Int) (t : List Int) (h : SqC w B sb gc n cc pv rv bv lev sos eos t) (hn : n ≤ 1000) (hso : strongS sos = sos) :
  Calls Tryz.prog 152 #[.pointer (some ⟨sb, 0, none⟩)] w fun e w' => e = .returned (.tuple #[]) ∧ SqC w' B sb gc n cc pv rv bv lev sos eos (pass (fM eos) gM sos t) ∧ w.grownBy w' (some gc) := by
 have hmf : ∀ (fn : Fn) (first cap : Array Value) (w : World), (Instr.makeFunc fn first cap).run Tryz.prog w = .ok (.func fn first cap) w := fun _ _ _ _ => rfl
 have hb1 : Below w.heap.size w (w.alloc (.cells #[.pointer (some ⟨sb, 0, none⟩)] 146)) := (Below.refl _ _).alloc (Nat.le_refl _) _
 have hS1 := h.below hb1
 have c2 := hS1.f2
 have hl := h.len
 have HC : Hid (Calls Tryz.prog 97 #[.int .i64 n, .func (.func 214) #[] #[.pointer (some ⟨w.heap.size, 0, none⟩)], .func (.func 216) #[] #[.pointer (some ⟨w.heap.size, 0, none⟩)]] (w.alloc (.cells #[.pointer (some ⟨sb, 0, none⟩)] 146)) fun e w' => e = .returned (.tuple #[]) ∧ ∃ k x, n ≤ k ∧ JN (w.alloc (.cells #[.pointer (some ⟨sb, 0, none⟩)] 146)) B sb gc n cc w.heap.size pv rv bv lev sos eos t k x w') :=
  eachRow_any n _ _ _ _ _ _ hn (n1_law _ B sb gc n cc w.heap.size pv rv bv lev sos eos t hn hl hso (by simp)) (callFunc_enter Tryz.func214 (by kernel_rfl) (by kernel_rfl)) (callFunc_enter Tryz.func216 (by kernel_rfl) (by kernel_rfl)) t _
   ⟨sos, hS1, Array.getElem?_push_size, World.grownBy.refl _ _, by rw [Nat.zero_min]; exact PassTo.start _ _ _ _, .inl ⟨rfl, rfl⟩⟩
 have HG0 : Hid (w.grownBy (w.alloc (.cells #[.pointer (some ⟨sb, 0, none⟩)] 146)) (some gc)) := ⟨rfl, rfl, rfl, by simp, fun k hk _ => Below.heap_alloc w _ k hk⟩
 have HL : Hid (t.length = n) := hl
 clear h hb1 hS1 hl
 go_enter Tryz.func152, Tryz.ntmps152
 go_wp2_with fail
 refine HC.out.mono ?_
 rintro ev w2 ⟨rfl, k, t', hk, s, hS, _, hG, hN, _⟩
 rw [Nat.min_eq_right hk] at hN
 have e := hN.stop (by rw [HL.out]; omega)
 have HS : Hid (SqC w2 B sb gc n cc pv rv bv lev sos eos (pass (fM eos) gM sos t)) := by rw [← e]; exact hS
 have HG : Hid (w.grownBy w2 (some gc)) := HG0.out.trans hG
 clear hS hG hN e HC c2
 go_wp2
 go_end0
 exact ⟨rfl, HS.out, HG.out⟩
end Go.Proofs.YtkbinfhclaafhaaGreatDoor
namespace Go.Proofs.YtkbinfhclaafhaaGreatDoor
def wkP (sos : Int) (t : List Int) : List Int := pass f7 g7 sos (pass f6 g3 () (pass f5 g5 none (pass f4 g4 none (pass f3 g3 () (pass f2 g2 sos (pass (f1 sos) (g1 sos) none t))))))
def solveP (rs kinds : List Int) (s : Sq) : List Int :=
 pass (fn2 (s.level % 2)) g3 () (pass (fM s.eos) gM s.sos (n0P (wkP s.sos (gath kinds s.at')) (gath kinds s.at') (pairsL (wkP s.sos (gath kinds s.at')) (gath rs s.at')) (s.level % 2) s.sos))
theorem wkP_eq {sos : Int} (hs : sos = 0 ∨ sos = 1) {t : List Int} (ht : ∀ c ∈ t, K0 c) : wkP sos t = weakL sos t := by
 unfold wkP weakL
 rw [pass2_num, pass7_num, num7_eq]
 intro c hc
 have := (weak_classes hs ht).1 c hc
 unfold Cl at this
 omega
theorem n0P_eq {e sos : Int} (he : e = 0 ∨ e = 1) (hs : sos = 0 ∨ sos = 1) (orig : List Int) : ∀ (ps : List (Nat × Nat)) (t : List Int), n0P t orig ps e sos = n0L t orig ps e sos
 | [], _ => rfl
 | p :: ps, t => by
  have := n0P_eq he hs orig ps (pairedL t orig p e sos)
  unfold n0P n0L at this ⊢
  rw [List.foldl_cons, List.foldl_cons, paired_eq he hs, this]
theorem mem_set {l : List Int} {k : Nat} {v c : Int} (h : c ∈ l.set k v) : c ∈ l ∨ c = v := by
 rcases List.mem_or_eq_of_mem_set h with h | h
 ·exact .inl h
 ·exact .inr h
theorem mem_fillV {t : List Int} {k : Nat} {v c : Int} : ∀ m, c ∈ fillV t k v m → c ∈ t ∨ c = v
 | 0, h => .inl h
 | m + 1, h => by
  rcases mem_set h with h | h
  ·exact mem_fillV m h
  ·exact .inr h
theorem pairD_01 {t : List Int} {p : Nat × Nat} {e sos : Int} (he : e = 0 ∨ e = 1) (hs : sos = 0 ∨ sos = 1) : pairD t p e sos = 0 ∨ pairD t p e sos = 1 := by
 unfold pairD
 split
 ·exact he
 ·exact lastF_01 hs t p.1
theorem pairedL_all {P : Int → Prop} (h0 : P 0) (h1 : P 1) {t orig : List Int} {p : Nat × Nat} {e sos : Int} (he : e = 0 ∨ e = 1) (hs : sos = 0 ∨ sos = 1) (ht : ∀ c ∈ t, P c) : ∀ c ∈ pairedL t orig p e sos, P c := by
 intro c hc
 have hd := pairD_01 (t := t) (p := p) he hs
 have hP : ∀ x, x = pairD t p e sos → P x := fun x hx => by rcases hd with h | h <;> rw [hx, h] <;> assumption
 unfold pairedL at hc
 split at hc
 ·exact ht c hc
 ·rcases mem_fillV _ hc with hc | hc
  ·rcases mem_fillV _ hc with hc | hc
   ·exact ht c hc
   ·exact hP c hc
  ·exact hP c hc
theorem n0L_all {P : Int → Prop} (h0 : P 0) (h1 : P 1) {orig : List Int} {e sos : Int} (he : e = 0 ∨ e = 1) (hs : sos = 0 ∨ sos = 1) : ∀ (ps : List (Nat × Nat)) (t : List Int), (∀ c ∈ t, P c) → ∀ c ∈ n0L t orig ps e sos, P c
 | [], _, ht => ht
 | p :: ps, t, ht => by
  have := n0L_all h0 h1 (orig := orig) he hs ps (pairedL t orig p e sos) (pairedL_all h0 h1 he hs ht)
  unfold n0L at this ⊢
  rw [List.foldl_cons]
  exact this
theorem solve_eq {rs kinds : List Int} {s : Sq} (hs : s.sos = 0 ∨ s.sos = 1) (he : s.eos = 0 ∨ s.eos = 1) (hk : ∀ c ∈ gath kinds s.at', K0 c) : solveP rs kinds s = solveT rs kinds s := by
 have h2 : s.level % 2 = 0 ∨ s.level % 2 = 1 := by omega
 unfold solveP solveT
 rw [wkP_eq hs hk, n0P_eq h2 hs, passn2_map, neut_eq he _ _ hs]
 ·rfl
 ·exact n0L_all (by simp [Cl]) (by simp [Cl]) h2 hs _ _ (weak_classes hs hk).2
def OkU (st : List Ent) : Prop := ∀ e ∈ st, e.o ≤ 1
theorem OkU.app {st : List Ent} {e : Ent} (h : OkU st) (he : e.o ≤ 1) : OkU (st ++ [e]) := fun y hy => by
 rcases List.mem_append.1 hy with hy | hy
 ·exact h y hy
 ·rw [List.mem_singleton.1 hy]; exact he
theorem OkU.sub {st st' : List Ent} (h : OkU st) (hs : ∀ e ∈ st', e ∈ st) : OkU st' := fun e he => h e (hs e he)
theorem OkU.pre {x : XS} (h : OkU x.st) (c : Int) : OkU (xPre x c).st := by
 unfold xPre
 split
 ·unfold endX
  split
  ·exact h
  ·split
   ·exact h
   ·exact h.sub (popIso_mem _)
 ·exact h
theorem OkU.post {x : XS} (h : OkU x.st) (cs : List Int) (i : Nat) (c : Int) : OkU (xPost cs i x c).st := by
 have hb : ∀ odd, OkU (beginX x odd).st := fun odd => by
  unfold beginX
  simp only
  split
  ·exact h.app (by simp)
  ·exact h
 unfold xPost
 split
 ·have ho : (if c = 15 then (0 : Int) else if c = 16 then 1 else -1) ≤ 1 := by
   split
   ·decide
   ·split <;> decide
  unfold embedX
  simp only
  generalize (if c = 15 then (0 : Int) else if c = 16 then 1 else -1) = o at *
  generalize nextL (topE x.st).l _ = n
  split
  ·exact h.app ho
  ·split <;> exact h
 ·split
  ·exact hb _
  ·split
   ·exact hb _
   ·split
    ·exact hb _
    ·split
     ·unfold popX
      split
      ·exact h
      ·split
       ·exact h
       ·split
        ·exact h.sub fun e he => List.dropLast_subset _ he
        ·exact h
     ·exact h
theorem xAt_u (cs : List Int) (para : Int) : ∀ i, OkU (xAt cs para i).st
 | 0 => by intro e he; rw [xAt] at he; rw [List.mem_singleton.1 he]; show (-1 : Int) ≤ 1; decide
 | i + 1 => by rw [xAt]; exact ((xAt_u cs para i).pre _).post cs i _
theorem xTop_u (cs : List Int) (para : Int) (hp : 0 ≤ para ∧ para ≤ 125) (i : Nat) : (xTop cs para i).o ≤ 1 :=
 ((xAt_u cs para i).pre _) _ (topE_mem ((xAt_ok cs para hp i).pre _).ne)
theorem xTop_l (cs : List Int) (para : Int) (hp : 0 ≤ para ∧ para ≤ 125) (i : Nat) : 0 ≤ (xTop cs para i).l ∧ (xTop cs para i).l ≤ 125 :=
 ((xAt_ok cs para hp i).pre _).top.2
theorem xLevels_bd {cs : List Int} {para : Int} (hp : 0 ≤ para ∧ para ≤ 125) (i : Nat) : 0 ≤ (xLevels cs para).getD i 0 ∧ (xLevels cs para).getD i 0 ≤ 125 := by
 rcases Nat.lt_or_ge i cs.length with h | h
 ·rw [xLevels, range_getD _ _ _ _ h]; exact xTop_l cs para hp i
 ·rw [List.getD_eq_getElem?_getD, List.getElem?_eq_none (by simp [xLevels]; exact h)]; simp
theorem xLevels_lenQ (cs : List Int) (para : Int) : (xLevels cs para).length = cs.length := by simp [xLevels]
theorem leftQ_at {cs : List Int} {p : Nat} (h : isL (xLeft cs) p = true) : p < cs.length ∧ leftB (cs.getD p 0) = true := by
 unfold isL xLeft at h
 rw [List.getD_eq_getElem?_getD, List.getElem?_map] at h
 rcases Nat.lt_or_ge p cs.length with hp | hp
 ·rw [List.getElem?_eq_getElem hp] at h
  refine ⟨hp, ?_⟩
  rw [List.getD_eq_getElem?_getD, List.getElem?_eq_getElem hp]
  exact h
 ·rw [List.getElem?_eq_none hp] at h; cases h
theorem kinds_K0 {cs : List Int} (hcs : ∀ c ∈ cs, 0 ≤ c ∧ c ≤ 21) {para : Int} (hp : 0 ≤ para ∧ para ≤ 125) {p : Nat} (h : isL (xLeft cs) p = true) : K0 ((xKinds cs para).getD p 0) := by
 obtain ⟨hlt, hl⟩ := leftQ_at h
 have hc := hcs _ (getD_mem (d := 0) hlt)
 rw [xKinds, range_getD _ _ _ _ hlt, kindOf]
 have hu := xTop_u cs para hp p
 generalize cs.getD p 0 = c at *
 unfold K0
 split
 ·omega
 ·unfold leftB at hl
  simp at hl
  omega
theorem xL_len (cs : List Int) (para : Int) : RunsOk cs.length (runsL (xLevels cs para) (xLeft cs)) := by
 have h := runsL_ok (xLevels cs para) (xLeft cs)
 refine ⟨h.2.1, fun r hr p hp => ?_, runs_nodup _ _⟩
 have := (run_lt hr hp).1
 rwa [xLevels_lenQ] at this
theorem chain_isL {cs : List Int} {para : Int} : ∀ (f : Nat) (r : List Nat), (∀ p ∈ r, isL (xLeft cs) p = true) → ∀ p ∈ chainF cs (runsL (xLevels cs para) (xLeft cs)) f r, isL (xLeft cs) p = true
 | 0, r, h => h
 | f + 1, r, h => by
  rw [chainF]
  cases hk : nextRun cs (runsL (xLevels cs para) (xLeft cs)) (r.getLastD 0) with
  | none => exact h
  | some k =>
   refine chain_isL f _ fun p hp => ?_
   rcases List.mem_append.1 hp with hp | hp
   ·exact h p hp
   ·exact (run_lt (getD_mem (nextRun_some hk).1) hp).2
theorem mt_lev {cs : List Int} {para : Int} (hp : 0 ≤ para ∧ para ≤ 125) : ∀ i, i < cs.length → isoB (cs.getD i 0) = true → mt cs i < cs.length → (xLevels cs para).getD (mt cs i) 0 = (xLevels cs para).getD i 0 := by
 intro i hi hiso hm
 rw [xLevels, range_getD _ _ _ _ hi, range_getD _ _ _ _ hm, (mt_level hp hi hiso hm).1]
theorem sideS_01 (a b : Int) : sideS a b = 0 ∨ sideS a b = 1 := by
 unfold sideS
 generalize (if a < b then b else a) = m
 split
 ·exact .inr rfl
 ·exact .inl rfl
section
variable {cs : List Int} {para : Int}
theorem seq_facts (hcs : ∀ c ∈ cs, 0 ≤ c ∧ c ≤ 21) (hp : 0 ≤ para ∧ para ≤ 125) {s : Sq} (hs : s ∈ seqsL cs (xLevels cs para) (xLeft cs) para) :
  (s.sos = 0 ∨ s.sos = 1) ∧ (s.eos = 0 ∨ s.eos = 1) ∧ gath (kP cs para) s.at' = gath (xKinds cs para) s.at' ∧ (∀ c ∈ gath (xKinds cs para) s.at', K0 c) ∧ ∀ p ∈ s.at', p < cs.length ∧ (xLevels cs para).getD p 0 = s.level := by
 unfold seqsL at hs
 obtain ⟨r, hr, rfl⟩ := List.mem_map.1 hs
 have hr' := (List.mem_filter.1 hr).1
 have hl : ∀ p ∈ chainF cs (runsL (xLevels cs para) (xLeft cs)) cs.length r, isL (xLeft cs) p = true := chain_isL _ _ fun p hp => (run_lt hr' hp).2
 refine ⟨sideS_01 _ _, sideS_01 _ _, ?_, ?_, ?_⟩
 ·refine List.map_congr_left fun p hp' => ?_
  obtain ⟨h1, h2⟩ := leftQ_at (hl p hp')
  exact kP_left hp h1 h2
 ·intro c hc
  obtain ⟨p, hp', rfl⟩ := List.mem_map.1 hc
  exact kinds_K0 hcs hp (hl p hp')
 ·exact chain_level (xL_len cs para) (runsL_ok _ _).2.2 (mt_lev hp) hr'
def seqTripP (rs kinds : List Int) (s : Sq) : List (Nat × Int × Int) := trip s.at' s.level (solveP rs kinds s)
theorem pass_len {σ : Type} {f : σ → Int → List Int → Int} {g : σ → Int → List Int → σ} (s : σ) (t : List Int) : (pass f g s t).length = t.length := pass_length t s
theorem solveT_length (rs kinds : List Int) (s : Sq) : (solveT rs kinds s).length = s.at'.length := by
 unfold solveT neutL
 rw [pass_len, n0L_length]
 unfold weakL
 have hn : ∀ (a b : Int) (t : List Int) (l : Int), (numL a b l t).length = t.length := fun a b t => by
  induction t with
  | nil => intro l; rfl
  | cons c r ih => intro l; rw [numL, List.length_cons, ih, List.length_cons]
 rw [hn, pass_len, pass_len, pass_len, pass_len, hn, pass_len]
 simp [gath]
theorem trip_mem {at' : List Nat} {lev : Int} {t : List Int} {x : Nat × Int × Int} (h : x ∈ trip at' lev t) : x.1 ∈ at' ∧ x.2.1 = lev ∧ x.2.2 ∈ t := by
 unfold trip at h
 obtain ⟨y, hy, rfl⟩ := List.mem_map.1 h
 obtain ⟨a, b⟩ := y
 exact ⟨(List.of_mem_zip hy).1, rfl, (List.of_mem_zip hy).2⟩
theorem trips_fst (rs kinds : List Int) : ∀ ss : List Sq, (ss.flatMap (seqTrip rs kinds)).map Prod.fst = ss.flatMap Sq.at'
 | [] => rfl
 | s :: ss => by
  rw [List.flatMap_cons, List.flatMap_cons, List.map_append, trips_fst rs kinds ss, seqTrip, trip_fst _ _ _ (by rw [solveT_length]; exact Nat.le_refl _)]
theorem set_all_ne {P : Int → Prop} : ∀ (xs : List (Nat × Int × Int)) (l : List Int), (∀ x ∈ xs, P (implS x.2.2 x.2.1)) → (∀ o ∈ l, P o) → ∀ o ∈ xs.foldl setF l, P o
 | [], _, _, h => h
 | x :: xs, l, hx, h => by
  rw [List.foldl_cons]
  refine set_all_ne xs _ (fun y hy => hx y (by simp [hy])) fun o ho => ?_
  rcases mem_set ho with ho | ho
  ·exact h o ho
  ·rw [ho]; exact hx x (by simp)
theorem implS_ge {c l : Int} : l ≤ implS c l ∧ implS c l ≤ l + 2 := by
 unfold implS
 split
 ·split
  ·omega
  ·split <;> omega
 ·split <;> omega
theorem tripP_eq (hcs : ∀ c ∈ cs, 0 ≤ c ∧ c ≤ 21) (rs : List Int) (hp : 0 ≤ para ∧ para ≤ 125) : ∀ s ∈ seqsL cs (xLevels cs para) (xLeft cs) para, seqTripP rs (kP cs para) s = seqTrip rs (xKinds cs para) s := fun s hs => by
 obtain ⟨a1, a2, a3, a4, _⟩ := seq_facts hcs hp hs
 unfold seqTripP seqTrip
 rw [← solve_eq a1 a2 a4]
 unfold solveP
 rw [a3]
theorem seqsAt_nodup (cs : List Int) (para : Int) : ((seqsL cs (xLevels cs para) (xLeft cs) para).flatMap Sq.at').Nodup := by
 have := seqs_nodup (xL_len cs para) cs.length
 unfold seqsL
 rw [List.flatMap_def, List.map_map] at *
 exact this
theorem add_other : ∀ (xs : List (Nat × Int × Int)) (l : List Int) (p : Nat), p ∉ xs.map Prod.fst → (xs.foldl addF l).getD p 0 = l.getD p 0
 | [], _, _, _ => rfl
 | x :: xs, l, p, h => by
  rw [List.map_cons, List.mem_cons, not_or] at h
  rw [List.foldl_cons, add_other xs _ p h.2]
  exact getD_set_ne (fun e => h.1 e.symm) _
theorem riseS_bd (l c : Int) : 0 ≤ riseS l c ∧ riseS l c ≤ 2 := by
 unfold riseS
 split
 ·omega
 ·split <;> omega
theorem add_bd : ∀ (xs : List (Nat × Int × Int)) (l : List Int), (xs.map Prod.fst).Nodup → ∀ p, l.getD p 0 ≤ (xs.foldl addF l).getD p 0 ∧ (xs.foldl addF l).getD p 0 ≤ l.getD p 0 + 2
 | [], l, _, p => by simp only [List.foldl_nil]; omega
 | x :: xs, l, hn, p => by
  rw [List.map_cons, List.nodup_cons] at hn
  rw [List.foldl_cons]
  by_cases hx : x.1 = p
  ·rw [add_other xs _ p (by rw [← hx]; exact hn.1)]
   have hr := riseS_bd x.2.1 x.2.2
   rcases Nat.lt_or_ge p l.length with h | h
   ·unfold addF
    rw [hx, getD_set_self h]
    omega
   ·have : (addF l x).getD p 0 = l.getD p 0 := by
     have e1 : ∀ k : List Int, k.length ≤ p → k.getD p 0 = 0 := fun k hk => by rw [List.getD_eq_getElem?_getD, List.getElem?_eq_none hk]; rfl
     rw [e1 _ (by simpa [addF] using h), e1 _ h]
    omega
  ·have := add_bd xs (addF l x) hn.2 p
   have e : (addF l x).getD p 0 = l.getD p 0 := getD_set_ne hx _
   omega
theorem tripsP_fst (hcs : ∀ c ∈ cs, 0 ≤ c ∧ c ≤ 21) (rs : List Int) (hp : 0 ≤ para ∧ para ≤ 125) : ∀ ss : List Sq, (∀ s ∈ ss, s ∈ seqsL cs (xLevels cs para) (xLeft cs) para) → (ss.flatMap (seqTripP rs (kP cs para))).map Prod.fst = ss.flatMap Sq.at'
 | [], _ => rfl
 | s :: ss, h => by
  rw [List.flatMap_cons, List.flatMap_cons, List.map_append, tripsP_fst hcs rs hp ss (fun x hx => h x (by simp [hx])), tripP_eq hcs rs hp s (h s (by simp)), seqTrip, trip_fst _ _ _ (by rw [solveT_length]; exact Nat.le_refl _)]
theorem sublist_flatten {α : Type} : ∀ {a b : List (List α)}, a.Sublist b → a.flatten.Sublist b.flatten := by
 intro a b h
 induction h with
 | slnil => exact List.Sublist.refl _
 | cons x _ ih => rw [List.flatten_cons]; exact ih.trans (List.sublist_append_right _ _)
 | cons_cons x _ ih => rw [List.flatten_cons, List.flatten_cons]; exact (List.append_sublist_append_left x).2 ih
theorem part_bd (hcs : ∀ c ∈ cs, 0 ≤ c ∧ c ≤ 21) (rs : List Int) (hp : 0 ≤ para ∧ para ≤ 125) (ss : List Sq) (hss : ss.Sublist (seqsL cs (xLevels cs para) (xLeft cs) para)) (p : Nat) :
  0 ≤ ((ss.flatMap (seqTripP rs (kP cs para))).foldl addF (xLevels cs para)).getD p 0 ∧ ((ss.flatMap (seqTripP rs (kP cs para))).foldl addF (xLevels cs para)).getD p 0 ≤ 127 := by
 have h1 : ((ss.flatMap (seqTripP rs (kP cs para))).map Prod.fst).Nodup := by
  rw [tripsP_fst hcs rs hp ss (fun s hs => hss.subset hs)]
  exact (seqsAt_nodup cs para).sublist (by rw [List.flatMap_def, List.flatMap_def]; exact sublist_flatten (hss.map Sq.at'))
 have h2 := add_bd _ (xLevels cs para) h1 p
 have h3 := xLevels_bd (cs := cs) hp p
 omega
theorem levels_eq (hcs : ∀ c ∈ cs, 0 ≤ c ∧ c ≤ 21) (rs : List Int) (d : Int) (hpd : para = paraL cs d) (hp : 0 ≤ para ∧ para ≤ 125) :
  fillP para (l1 para cs (((seqsL cs (xLevels cs para) (xLeft cs) para).flatMap (seqTripP rs (kP cs para))).foldl addF (xLevels cs para))) = levelsL rs cs d := by
 have h1 : (seqsL cs (xLevels cs para) (xLeft cs) para).flatMap (seqTripP rs (kP cs para)) = (seqsL cs (xLevels cs para) (xLeft cs) para).flatMap (seqTrip rs (xKinds cs para)) := by
  rw [List.flatMap_def, List.flatMap_def, List.map_congr_left (tripP_eq hcs rs hp)]
 rw [h1]
 have h2 : (((seqsL cs (xLevels cs para) (xLeft cs) para).flatMap (seqTrip rs (xKinds cs para))).map Prod.fst).Nodup := by
  rw [trips_fst]
  exact seqsAt_nodup cs para
 have h3 : ∀ x ∈ (seqsL cs (xLevels cs para) (xLeft cs) para).flatMap (seqTrip rs (xKinds cs para)), (xLevels cs para).getD x.1 0 = x.2.1 ∧ (x.2.2 = 0 ∨ x.2.2 = 1 ∨ x.2.2 = 3 ∨ x.2.2 = 6) := fun x hx => by
  obtain ⟨s, hs, hx⟩ := List.mem_flatMap.1 hx
  obtain ⟨a1, a2, a3, a4, a5⟩ := seq_facts hcs hp hs
  obtain ⟨b1, b2, b3⟩ := trip_mem hx
  refine ⟨by rw [b2]; exact (a5 _ b1).2, ?_⟩
  exact neut_strong a1 (by omega) _ b3
 rw [add_set _ _ h2 h3, fill_fin (by omega)]
 ·unfold levelsL; rw [← hpd]
 ·refine set_all_ne (P := fun o => o ≠ -1) _ _ (fun x hx => ?_) fun o ho => ?_
  ·have := (h3 x hx).1
   have h4 := xLevels_bd (cs := cs) hp x.1
   have := implS_ge (c := x.2.2) (l := x.2.1)
   omega
  ·obtain ⟨i, _, rfl⟩ := List.mem_map.1 (show o ∈ (List.range cs.length).map fun i => (xTop cs para i).l from ho)
   have := xTop_l cs para hp i
   omega
end
end Go.Proofs.YtkbinfhclaafhaaGreatDoor
namespace Go.Proofs.YtkbinfhclaafhaaGreatDoor
open Go.RowKit
theorem Tryz.infoCl : (Tryz.prog.info? 108).map (fun i => (i.zero, i.size, i.bytes)) = some (some (.int .i64 0), 1, 8) := by kernel_rfl
theorem Tryz.cellsCl : Tryz.prog.cellsOf 108 = 1 := by kernel_rfl
theorem Tryz.undArr3 : Tryz.prog.underlying 263 = some (.array 3 108) := by kernel_rfl
theorem Tryz.part3 (a b c : Int) (w : World) : (part 108 #[.int .i64 a, .int .i64 b, .int .i64 c] 0).run Tryz.prog w = .ok (.int .i64 a) w ∧ (part 108 #[.int .i64 a, .int .i64 b, .int .i64 c] 1).run Tryz.prog w = .ok (.int .i64 b) w ∧ (part 108 #[.int .i64 a, .int .i64 b, .int .i64 c] 2).run Tryz.prog w = .ok (.int .i64 c) w := ⟨by kernel_rfl, by kernel_rfl, by kernel_rfl⟩
theorem Tryz.eqArr3 (a b c x y z : Int) (w : World) : (Op.equalIn 10000 263 (.agg #[.int .i64 a, .int .i64 b, .int .i64 c]) (.agg #[.int .i64 x, .int .i64 y, .int .i64 z])).run Tryz.prog w = .ok (a == x && (b == y && c == z)) w := by
 obtain ⟨i, hi, _⟩ := info_parts Tryz.infoCl
 have r : ∀ (p q : Int) (w : World), (Op.equalIn 9999 108 (.int .i64 p) (.int .i64 q)).run Tryz.prog w = .ok (p == q) w := fun p q w => run_equalIn_int w 9998 108 .i64 .i64 p q Tryz.underlying108
 have e : List.range 3 = [0, 1, 2] := rfl
 obtain ⟨p1, p2, p3⟩ := Tryz.part3 a b c w
 obtain ⟨q1, q2, q3⟩ := Tryz.part3 x y z w
 rw [run_equalIn_array w 9999 _ _ Tryz.undArr3 hi, e, Tryz.cellsCl]
 cases h1 : (a == x) <;> cases h2 : (b == y) <;> cases h3 : (c == z) <;> simp [Op.eqItems, p1, p2, p3, q1, q2, q3, r, h1, h2, h3]
set_option maxRecDepth 100000 in
set_option maxHeartbeats 8000000 in
theorem w4_row (w : World) (B sb gc n cc : Nat) (pv rv bv : Value) (lev sos eos : Int) (t : List Int) (h : SqC w B sb gc n cc pv rv bv lev sos eos t) (hn : n ≤ 1000) (h1n : 0 < n) :
  Calls Tryz.prog 147 #[.pointer (some ⟨sb, 0, none⟩)] w fun e w' => e = .returned (.tuple #[]) ∧ SqC w' B sb gc n cc pv rv bv lev sos eos (pass f4 g4 none t) ∧ w.grownBy w' (some gc) := by
 have HS0 : Hid (SqC w B sb gc n cc pv rv bv lev sos eos t) := h
 have HL : Hid (t.length = n) := h.len
 have HE := Tryz.eqArr3
 clear h
 go_enter Tryz.func147, Tryz.ntmps147
 go_wp2
 go_loopg [2] (n - 1) (fun gk iv wr => ∃ (k : Nat) (a : Int) (t' : List Int), k + 1 ≤ n ∧ gk = n - (k + 1) ∧ iv = .int .i64 ((k : Int) + 1) ∧ SqC wr B sb gc n cc pv rv bv lev sos eos t' ∧ w.grownBy wr (some gc) ∧ PassTo f4 g4 none t (k + 1) (some a) t' ∧ a = t'.getD k 0)
 case atStart => exact ⟨0, t.getD 0 0, t, by omega, by omega, by simp, HS0.out, World.grownBy.refl _ _, pass4_one (by rw [HL.out]; exact h1n), rfl⟩
 case round =>
  clear HS0
  obtain ⟨k, a, t', hk, hgk, rfl, hS, hG, hN, ha⟩ := hrel
  by_cases hlt : k + 1 + 1 < n
  ·have c0 := hS.at k (by omega)
   have c1 := hS.at (k + 1) (by omega)
   have cn := hS.at (k + 1 + 1) (by omega)
   rw [← ha] at c0
   rw [hN.at (k + 1) (Nat.le_refl _)] at c1
   rw [hN.at (k + 1 + 1) (by omega)] at cn
   have c2 := hS.f2
   obtain ⟨i1, hi1⟩ : ∃ i1, i1 = (k : Int) + 1 := ⟨_, rfl⟩
   rw [← hi1]
   have d0 : wr.cell? ⟨gc, i1.toNat - 1, none⟩ = some (.int .i64 a) := by rw [show i1.toNat - 1 = k by omega]; exact c0
   have d1 : wr.cell? ⟨gc, i1.toNat, none⟩ = some (.int .i64 (t.getD (k + 1) 0)) := by rw [show i1.toNat = k + 1 by omega]; exact c1
   have dn : wr.cell? ⟨gc, (i1 + 1).toNat, none⟩ = some (.int .i64 (t.getD (k + 1 + 1) 0)) := by rw [show (i1 + 1).toNat = k + 1 + 1 by omega]; exact cn
   clear c0 c1 cn
   have hk0 : (0 : Int) ≤ i1 - 1 := by omega
   have hk1 : (0 : Int) ≤ i1 := by omega
   have hk3 : (1 : Int) ≤ i1 := by omega
   have hk4 : i1 ≤ (n : Int) := by omega
   have hk5 : (0 : Int) < i1 := by omega
   have hk2 : (0 : Int) ≤ i1 + 1 := by omega
   have hkn : i1 + 1 < (n : Int) := by omega
   have hkn2 : i1 < (n : Int) := by omega
   have hkm : i1 - 1 < (n : Int) := by omega
   have hw1 : IntKind.i64.wrap (i1 - 1) = i1 - 1 := IntWalk.i64_in _ ⟨by omega, by omega⟩
   have hw2 : IntKind.i64.wrap (i1 + 1) = i1 + 1 := IntWalk.i64_in _ ⟨by omega, by omega⟩
   have HI : Hid (i1 = (k : Int) + 1) := hi1
   have hd : t.drop (k + 1 + 1) = t.getD (k + 1 + 1) 0 :: t.drop (k + 1 + 2) := drop_at (by rw [HL.out]; omega)
   have htl := hS.len
   have HS : Hid (SqC wr B sb gc n cc pv rv bv lev sos eos t') := hS
   have HG : Hid (w.grownBy wr (some gc)) := hG
   have hat := hN.at (k + 1) (Nat.le_refl _)
   have keyStay : f4 (some a) (t.getD (k + 1) 0) (t.drop (k + 1 + 1)) = t.getD (k + 1) 0 → Hid (PassTo f4 g4 none t (k + 1 + 1) (some (t.getD (k + 1) 0)) t') := fun h1 => hN.stay (by rw [HL.out]; omega) _ h1.symm (by rw [g4, h1])
   have keySet : ∀ v, f4 (some a) (t.getD (k + 1) 0) (t.drop (k + 1 + 1)) = v → Hid (PassTo f4 g4 none t (k + 1 + 1) (some v) (t'.set (k + 1) v) ∧ v = (t'.set (k + 1) v).getD (k + 1) 0) := fun v h1 => ⟨hN.step (by rw [HL.out]; omega) v (some v) h1.symm (by rw [g4, h1]), by rw [getD_set_self (by rw [htl]; omega)]⟩
   rw [hd, f4_mid] at keyStay
   have keySet' : ∀ v, (if a = t.getD (k + 1 + 1) 0 ∧ ((t.getD (k + 1) 0 = 4 ∧ a = 3) ∨ (t.getD (k + 1) 0 = 7 ∧ (a = 3 ∨ a = 6))) then a else t.getD (k + 1) 0) = v → Hid (PassTo f4 g4 none t (k + 1 + 1) (some v) (t'.set (k + 1) v) ∧ v = (t'.set (k + 1) v).getD (k + 1) 0) := fun v h1 => keySet v (by rw [hd, f4_mid]; exact h1)
   have HK1 : Hid (_) := keyStay
   have HK2 : Hid (_) := keySet'
   have HAt : Hid (t'.getD (k + 1) 0 = t.getD (k + 1) 0) := hat
   clear hS hG hN ha keySet hd hat htl keyStay keySet'
   generalize t.getD (k + 1) 0 = c at *
   generalize t.getD (k + 1 + 1) 0 = d at *
   clear hi1
   have e1 := World.new_ne wr _ c2
   have e2 := World.new_ne wr _ d0
   go_wp2
   go_region_held3 (fun w' => w'.cell? ⟨sb, 2, none⟩ = some (.slice (some ⟨gc, 0, none⟩) n cc) ∧ w'.cell? ⟨gc, i1.toNat - 1, none⟩ = some (.int .i64 a) ∧ w'.cell? ⟨gc, i1.toNat, none⟩ = some (.int .i64 c) ∧ w'.cell? ⟨gc, (i1 + 1).toNat, none⟩ = some (.int .i64 d)) (go_keep) (fail)
   have hb5 : Below wr.heap.size wr (wr.alloc (.cells #[.int .i64 a, .int .i64 c, .int .i64 d] 263)).drew := ((Below.refl _ _).alloc (Nat.le_refl _) _).drew
   have HS5 : Hid (SqC (wr.alloc (.cells #[.int .i64 a, .int .i64 c, .int .i64 d] 263)).drew B sb gc n cc pv rv bv lev sos eos t') := HS.out.below hb5
   have HG5 : Hid (w.grownBy (wr.alloc (.cells #[.int .i64 a, .int .i64 c, .int .i64 d] 263)).drew (some gc)) := HG.out.trans ⟨rfl, rfl, rfl, by simp, fun q hq _ => Below.heap_alloc wr _ q hq⟩
   have b0 : (wr.alloc (.cells #[.int .i64 a, .int .i64 c, .int .i64 d] 263)).drew.cell? ⟨wr.heap.size, 0, none⟩ = some (.int .i64 a) := by go_simp
   have b1 : (wr.alloc (.cells #[.int .i64 a, .int .i64 c, .int .i64 d] 263)).drew.cell? ⟨wr.heap.size, 1, none⟩ = some (.int .i64 c) := by go_simp
   have b2 : (wr.alloc (.cells #[.int .i64 a, .int .i64 c, .int .i64 d] 263)).drew.cell? ⟨wr.heap.size, 2, none⟩ = some (.int .i64 d) := by go_simp
   generalize (wr.alloc (.cells #[.int .i64 a, .int .i64 c, .int .i64 d] 263)).drew = W5 at *
   generalize wr.heap.size = zb at *
   clear d0 d1 dn c2 e1 e2 hb5 hk0 hk1 hk2 hk3 hk4 hk5 hkn hkn2 hkm hw1 hw2
   have hi := HI.out
   subst hi
   have hkn2 : (k : Int) + 1 < (n : Int) := by omega
   have c2 := HS5.out.f2
   have ck := HS5.out.at (k + 1) (by omega)
   have hfr := HS5.out.frozen (k + 1)
   rw [HAt.out] at ck
   cases h1 : (a == 3 && (c == 4 && d == 3))
   ·cases h2 : (a == 3 && (c == 7 && d == 3))
    ·cases h3 : (a == 6 && (c == 7 && d == 6))
     ·have HK := HK1.out (if_neg (by simp at h1 h2 h3; omega))
      clear HK1 HK2
      go_wp2
      go_roundg (n - (k + 1 + 1))
      case measure => omega
      case rel => exact ⟨k + 1, c, t', by omega, rfl, by go_num, HS5.out, HG5.out, HK.out, HAt.out.symm⟩
     ·have HK := HK2.out 6 (by simp at h3; rw [if_pos (by omega)]; omega)
      clear HK1 HK2
      go_wp2
      go_roundg (n - (k + 1 + 1))
      case measure => omega
      case rel => exact ⟨k + 1, 6, t'.set (k + 1) 6, by omega, rfl, by go_num, HS5.out.set (k + 1) 6, HG5.out.trans (HS5.out.grown (k + 1) 6), HK.out.1, HK.out.2⟩
    ·have HK := HK2.out 3 (by simp at h2; rw [if_pos (by omega)]; omega)
     clear HK1 HK2
     go_wp2
     go_roundg (n - (k + 1 + 1))
     case measure => omega
     case rel => exact ⟨k + 1, 3, t'.set (k + 1) 3, by omega, rfl, by go_num, HS5.out.set (k + 1) 3, HG5.out.trans (HS5.out.grown (k + 1) 3), HK.out.1, HK.out.2⟩
   ·have HK := HK2.out 3 (by simp at h1; rw [if_pos (by omega)]; omega)
    clear HK1 HK2
    go_wp2
    go_roundg (n - (k + 1 + 1))
    case measure => omega
    case rel => exact ⟨k + 1, 3, t'.set (k + 1) 3, by omega, rfl, by go_num, HS5.out.set (k + 1) 3, HG5.out.trans (HS5.out.grown (k + 1) 3), HK.out.1, HK.out.2⟩
  ·have hpe : t' = pass f4 g4 none t := pass4_stop hN (by rw [HL.out]; omega)
   have HS : Hid (SqC wr B sb gc n cc pv rv bv lev sos eos (pass f4 g4 none t)) := by rw [← hpe]; exact hS
   have HG : Hid (w.grownBy wr (some gc)) := hG
   have hkn : ¬ (k : Int) + 1 + 1 < (n : Int) := by omega
   have c2 := hS.f2
   clear hS hG hN hpe ha
   go_wp2
   go_end0
   exact ⟨rfl, HS.out, HG.out⟩
end Go.Proofs.YtkbinfhclaafhaaGreatDoor
namespace Go.Proofs.YtkbinfhclaafhaaGreatDoor
open Go.RowKit
structure SqS (W : World) (B : Nat) (L : LP) (lev sos eos : Int) (k0 : List Int) (q : SqD) (t : List Int) : Prop where
 sq : SqC W B q.sb q.gc q.m q.cc (.slice (some ⟨q.gp, q.op, none⟩) q.m q.cp) (.slice (some ⟨q.gr, 0, none⟩) q.m q.cr) (.slice (some ⟨q.gb, 0, none⟩) q.m q.m) lev sos eos t
 ru : Ru32 W q.gr q.m (gath L.rs q.at')
 be : IntsAt W q.gb 0 k0
 pl : IntsAt W q.gp q.op (nl q.at')
 nr : q.gr ≠ q.gc
 nb : q.gb ≠ q.gc
 np : q.gp ≠ q.gc
section
variable {W W' : World} {B : Nat} {L : LP} {lev sos eos : Int} {k0 t t' : List Int} {q : SqD}
theorem SqS.rule (h : SqS W B L lev sos eos k0 q t) (hS : SqC W' B q.sb q.gc q.m q.cc (.slice (some ⟨q.gp, q.op, none⟩) q.m q.cp) (.slice (some ⟨q.gr, 0, none⟩) q.m q.cr) (.slice (some ⟨q.gb, 0, none⟩) q.m q.m) lev sos eos t') (hg : W.grownBy W' (some q.gc)) : SqS W' B L lev sos eos k0 q t' :=
 ⟨hS, fun k hk => cell_grown hg (h.ru k hk) (fun e => h.nr (Option.some.inj e)), h.be.grown hg h.nb, h.pl.grown hg h.np, h.nr, h.nb, h.np⟩
theorem SqS.below (h : SqS W B L lev sos eos k0 q t) (hb : Below W.heap.size W W') : SqS W' B L lev sos eos k0 q t :=
 ⟨h.sq.below hb, h.ru.below hb, h.be.below hb, h.pl.below hb, h.nr, h.nb, h.np⟩
end
theorem rv32_get (l : List Int) (k : Nat) (hk : k < l.length) : (rv32 l)[k]? = some (.int .i32 (l.getD k 0)) := by
 simp [rv32, List.getD_eq_getElem?_getD, List.getElem?_eq_getElem hk]
theorem SeqOk.sqs {W : World} {B : Nat} {L : LP} {ks ls : List Int} {q : SqD} (h : SeqOk W B L ks ls q) : SqS W B L (ls.getD (q.at'.headD 0) 0) (sideS (ls.getD (q.at'.headD 0) 0) (befF ls (xLeft L.cs) L.p (q.at'.headD 0))) (sideS (ls.getD (q.at'.headD 0) 0) (behS L.cs ls (xLeft L.cs) L.p (q.at'.getLastD 0))) (gath ks q.at') q (gath ks q.at') := by
 obtain ⟨c5, fr, e5⟩ := h.ty
 obtain ⟨c2, e2⟩ := heap_of_own h.sq.row
 obtain ⟨c3, e3⟩ := heap_of_own h.ru
 refine ⟨h.sq, fun k hk => ?_, fun k hk => by rw [Nat.zero_add]; exact own_icell h.be k hk, h.pl, ?_, h.ne, ?_⟩
 ·rw [World.ownsRow.cellAt h.ru k (by omega), rv32_get _ _ (by rw [gath_nl_len, h.len]; exact hk)]
 ·intro e; rw [e] at e3; exact absurd (cells_type e2 e3) (by decide)
 ·intro e; rw [e] at e5; exact absurd (cells_type e2 e5) (by decide)
def ruleF : Nat → Nat
 | 0 => 144
 | 1 => 145
 | 2 => 146
 | 3 => 147
 | 4 => 148
 | 5 => 149
 | 6 => 150
 | 7 => 151
 | 8 => 152
 | _ => 153
def ruleT (lev sos eos : Int) (k0 rs t : List Int) : Nat → List Int
 | 0 => pass (f1 sos) (g1 sos) none t
 | 1 => pass f2 g2 sos t
 | 2 => pass f3 g3 () t
 | 3 => pass f4 g4 none t
 | 4 => pass f5 g5 none t
 | 5 => pass f6 g3 () t
 | 6 => pass f7 g7 sos t
 | 7 => n0P t k0 (pairsL t rs) (lev % 2) sos
 | 8 => pass (fM eos) gM sos t
 | _ => pass (fn2 (lev % 2)) g3 () t
def rulesT (lev sos eos : Int) (k0 rs : List Int) : Nat → List Int
 | 0 => k0
 | k + 1 => ruleT lev sos eos k0 rs (rulesT lev sos eos k0 rs k) k
theorem rulesT_all (rs ks : List Int) (s : Sq) : rulesT s.level s.sos s.eos (gath ks s.at') (gath rs s.at') 10 = solveP rs ks s := rfl
theorem rule_enter (k : Nat) : ∀ args w, (callFunc (ruleF k) args).run Tryz.prog w = .ok (.enter (ruleF k) args) w := by
 match k with
 | 0 => exact callFunc_enter Tryz.func144 (by kernel_rfl) (by kernel_rfl)
 | 1 => exact callFunc_enter Tryz.func145 (by kernel_rfl) (by kernel_rfl)
 | 2 => exact callFunc_enter Tryz.func146 (by kernel_rfl) (by kernel_rfl)
 | 3 => exact callFunc_enter Tryz.func147 (by kernel_rfl) (by kernel_rfl)
 | 4 => exact callFunc_enter Tryz.func148 (by kernel_rfl) (by kernel_rfl)
 | 5 => exact callFunc_enter Tryz.func149 (by kernel_rfl) (by kernel_rfl)
 | 6 => exact callFunc_enter Tryz.func150 (by kernel_rfl) (by kernel_rfl)
 | 7 => exact callFunc_enter Tryz.func151 (by kernel_rfl) (by kernel_rfl)
 | 8 => exact callFunc_enter Tryz.func152 (by kernel_rfl) (by kernel_rfl)
 | _ + 9 => exact callFunc_enter Tryz.func153 (by kernel_rfl) (by kernel_rfl)
theorem strong01 {c : Int} (h : c = 0 ∨ c = 1) : strongS c = c := by rcases h with rfl | rfl <;> rfl
theorem rule_any {W : World} {B : Nat} {L : LP} {lev sos eos : Int} {k0 t : List Int} {q : SqD} (h : SqS W B L lev sos eos k0 q t) (hbr : Br W) (hn : q.m ≤ 1000) (hm : 0 < q.m) (hlev : 0 ≤ lev) (hso : sos = 0 ∨ sos = 1) (heo : eos = 0 ∨ eos = 1) (hk0 : k0.length = q.m) (k : Nat) :
  Calls Tryz.prog (ruleF k) #[.pointer (some ⟨q.sb, 0, none⟩)] W fun e W' => e = .returned (.tuple #[]) ∧ SqS W' B L lev sos eos k0 q (ruleT lev sos eos k0 (gath L.rs q.at') t k) ∧ W.grownBy W' (some q.gc) := by
 match k with
 | 0 => exact (w1_row W B _ _ _ _ _ _ _ _ _ _ _ h.sq hn hso).mono fun e w' ⟨he, hS, hg⟩ => ⟨he, h.rule hS hg, hg⟩
 | 1 => exact (w2_row W B _ _ _ _ _ _ _ _ _ _ _ h.sq hn).mono fun e w' ⟨he, hS, hg⟩ => ⟨he, h.rule hS hg, hg⟩
 | 2 => exact (w3_row W B _ _ _ _ _ _ _ _ _ _ _ h.sq hn).mono fun e w' ⟨he, hS, hg⟩ => ⟨he, h.rule hS hg, hg⟩
 | 3 => exact (w4_row W B _ _ _ _ _ _ _ _ _ _ _ h.sq hn hm).mono fun e w' ⟨he, hS, hg⟩ => ⟨he, h.rule hS hg, hg⟩
 | 4 => exact (w5_row W B _ _ _ _ _ _ _ _ _ _ _ h.sq hn hso heo).mono fun e w' ⟨he, hS, hg⟩ => ⟨he, h.rule hS hg, hg⟩
 | 5 => exact (w6_row W B _ _ _ _ _ _ _ _ _ _ _ h.sq hn).mono fun e w' ⟨he, hS, hg⟩ => ⟨he, h.rule hS hg, hg⟩
 | 6 => exact (w7_row W B _ _ _ _ _ _ _ _ _ _ _ h.sq hn).mono fun e w' ⟨he, hS, hg⟩ => ⟨he, h.rule hS hg, hg⟩
 | 7 => exact (resBr_row W B _ _ _ _ _ _ _ _ _ _ _ _ _ _ _ h.sq h.ru h.be hk0 h.nb hbr hn hlev).mono fun e w' ⟨he, hS, hg⟩ => ⟨he, h.rule hS hg, hg⟩
 | 8 => exact (n1_row W B _ _ _ _ _ _ _ _ _ _ _ h.sq hn (strong01 hso)).mono fun e w' ⟨he, hS, hg⟩ => ⟨he, h.rule hS hg, hg⟩
 | _ + 9 => exact (n2_row W B _ _ _ _ _ _ _ _ _ _ _ h.sq hn hlev).mono fun e w' ⟨he, hS, hg⟩ => ⟨he, h.rule hS hg, hg⟩
structure LV (W w0 : World) (B : Nat) (L : LP) (ks ls : List Int) (go g : Nat) (av : Value) (qs : List SqD) (j : Nat) (o : List Int) : Prop where
 fs : FS W L ks ls go o
 rl : ∀ k, k < 10 → W.cell? ⟨g, k, none⟩ = some (.func (.func (ruleF k)) #[] #[])
 row : W.ownsRow B 146 1 av qs.length (qs.map SqD.ptr)
 sq : ∀ q ∈ qs.drop j, SeqOk W B L ks ls q
 br : Br W
 hb : Below L.B w0 W
structure LVc (B : Nat) (L : LP) (go g : Nat) : Prop where
 lo : L.B ≤ B
 goL : go < B
 goB : L.B ≤ go
 gL : g < B
 gg : g ≠ go
 has : ∀ x, L.has x → x < B
 bp : 11 < L.B
section
variable {W W' w0 : World} {B : Nat} {L : LP} {ks ls o o' : List Int} {go g j : Nat} {av : Value} {qs : List SqD} {q : SqD}
theorem Br.grown {r : Nat} (h : Br W) (hg : W.grownBy W' (some r)) (hne : 11 ≠ r) : Br W' := by
 obtain ⟨tt, fr, e⟩ := h
 exact ⟨tt, fr, (hg.block _ (heap_lt e) (fun e => hne (Option.some.inj e))).trans e⟩
theorem LV.below (h : LV W w0 B L ks ls go g av qs j o) (hb : Below W.heap.size W W') (hsz : L.B ≤ W.heap.size) : LV W' w0 B L ks ls go g av qs j o :=
 ⟨h.fs.below hb, fun k hk => cell_grown (r := none) (asGrown hb) (h.rl k hk) (by simp), own_below h.row hb, fun q hq => (h.sq q hq).below hb, h.br.below hb, h.hb.trans (hb.mono hsz)⟩
theorem LV.rule (h : LV W w0 B L ks ls go g av qs j o) (hc : LVc B L go g) (hq : ∃ cur, W.heap[q.gc]? = some (.cells cur 108 (0, 0))) (hB : B ≤ q.gc) (hap : ∀ q' ∈ qs.drop j, Apart q q') (hg : W.grownBy W' (some q.gc)) (hsz : L.B ≤ W.heap.size) : LV W' w0 B L ks ls go g av qs j o := by
 obtain ⟨cur, hh⟩ := hq
 have n1 := hc.goL
 have n2 := hc.gL
 have n3 := hc.lo
 have n4 := hc.bp
 refine ⟨⟨h.fs.ln.same hg.size fun x hx => hg.block x (h.fs.ln.lt x hx) (fun e => by have := hc.has x hx; have := Option.some.inj e; omega), own_grown2 h.fs.row hg (by omega), h.fs.ap⟩, fun k hk => cell_grown hg (h.rl k hk) (fun e => by have := Option.some.inj e; simp only at this; omega), own_grown h.row hg (.inr (own_ne_cells h.row hh (by decide))), fun q' hq' => ?_, h.br.grown hg (by omega), h.hb.grown hg hsz (fun y hy => by cases hy; omega)⟩
 have hx := h.sq q' hq'
 have ha := hap q' hq'
 obtain ⟨c3, e3⟩ := heap_of_own hx.ru
 obtain ⟨c5, fr, e5⟩ := hx.ty
 refine hx.grown hg ?_ (fun e => ha.1 e.symm) ?_ (fun e => ha.2.2 e.symm) ?_
 ·intro e; exact absurd (cells_type (e ▸ hx.sq.cell) hh) (by decide)
 ·intro e; exact absurd (cells_type (e ▸ e3) hh) (by decide)
 ·intro e; exact absurd (cells_type (e ▸ e5) hh) (by decide)
theorem LV.impl (h : LV W w0 B L ks ls go g av qs j o) (hc : LVc B L go g) (hR : IRow W' L.B go L.n L.n o') (hg : W.grownBy W' (some go)) (hsz : L.B ≤ W.heap.size) : LV W' w0 B L ks ls go g av qs j o' := by
 have n1 := hc.goL
 have n4 := hc.bp
 have n5 := hc.goB
 obtain ⟨cur, hh⟩ := heap_of_own h.fs.row
 refine ⟨⟨h.fs.ln.same hg.size fun x hx => hg.block x (h.fs.ln.lt x hx) (fun e => h.fs.ap x hx (Option.some.inj e)), hR, h.fs.ap⟩, fun k hk => cell_grown hg (h.rl k hk) (fun e => hc.gg (Option.some.inj e)), own_grown h.row hg (.inr (own_ne_cells h.row hh (by decide))), fun q' hq' => ?_, h.br.grown hg (by omega), h.hb.grown hg hsz (fun y hy => by cases hy; exact hc.goB)⟩
 have hx := h.sq q' hq'
 have l1 := (hx.sq.row.lt q'.gc rfl).1
 have l2 := (World.ownsRow.lt hx.ru q'.gr rfl).1
 have l3 := (World.ownsRow.lt hx.be q'.gb rfl).1
 have l4 := hx.lo
 exact hx.grown hg (by omega) (by omega) (by omega) (by omega) (by omega)
end
def sqOf (L : LP) (ls : List Int) (q : SqD) : Sq := endedS L.cs ls (xLeft L.cs) L.p q.at'
theorem sqs_of {L : LP} {ls : List Int} {qs : List SqD} (hn : L.cs.length = L.n) (h : qs.map SqD.at' = ((runsL ls (xLeft L.cs)).filter (begsB L.cs)).map (chainF L.cs (runsL ls (xLeft L.cs)) L.n)) : qs.map (sqOf L ls) = seqsL L.cs ls (xLeft L.cs) L.p := by
 unfold seqsL
 have : qs.map (sqOf L ls) = (qs.map SqD.at').map (endedS L.cs ls (xLeft L.cs) L.p) := by rw [List.map_map]; rfl
 rw [this, h, List.map_map, hn]
 rfl
theorem drop_cons {α : Type} {l : List α} {j : Nat} {q : α} (h : l[j]? = some q) : l.drop j = q :: l.drop (j + 1) := by
 obtain ⟨hj, e⟩ := List.getElem?_eq_some_iff.1 h
 rw [List.drop_eq_getElem_cons hj, e]
theorem drop_apart {qs : List SqD} (h : qs.Pairwise Apart) {j : Nat} {q : SqD} (hq : qs[j]? = some q) : ∀ q' ∈ qs.drop (j + 1), Apart q q' := by
 have := h.sublist (List.drop_sublist j qs)
 rw [drop_cons hq] at this
 exact (List.pairwise_cons.1 this).1
end Go.Proofs.YtkbinfhclaafhaaGreatDoor
namespace Go.Proofs.YtkbinfhclaafhaaGreatDoor
open Go.RowKit
def szN (n b0 b1 b2 b3 : Nat) : Nat := if (Lib.decodeN n b0 b1 b2 b3).1 = 65533 ∧ (Lib.decodeN n b0 b1 b2 b3).2 = 1 then 0 else (Lib.decodeN n b0 b1 b2 b3).2
def sz (s : ByteArray) : Nat := szN s.size (s.get! 0).toNat (s.get! 1).toNat (s.get! 2).toNat (s.get! 3).toNat
set_option maxRecDepth 100000 in
theorem and31 : ∀ X : Fin 256, bits .and .i64 ((X.val : Nat) : Int) 31 = ((X.val % 32 : Nat) : Int) := by decide
set_option maxRecDepth 100000 in
theorem and15 : ∀ X : Fin 256, bits .and .i64 ((X.val : Nat) : Int) 15 = ((X.val % 16 : Nat) : Int) := by decide
set_option maxRecDepth 100000 in
theorem and7i : ∀ X : Fin 256, bits .and .i64 ((X.val : Nat) : Int) 7 = ((X.val % 8 : Nat) : Int) := by decide
theorem get_eq (s : ByteArray) (k : Nat) (h : k < s.size) : s.get! k = s[k]'h := by
 simp [ByteArray.get!, getElem!_pos, h]
 rfl
set_option maxRecDepth 100000 in
set_option maxHeartbeats 2000000 in
theorem size_asc (s : ByteArray) (w : World) (c0 : UInt8) (h0 : 0 < s.size) (_hs : s.size ≤ 10000) (e0 : s[0]'h0 = c0) (_p0 : (c0.toNat : Int) < 128) :
  Calls Tryz.prog 112 #[.string s] w fun e w' => e = .returned (.int .i64 1) ∧ w' = w := by
 go_enter Tryz.func112, Tryz.ntmps112
 go_wp2
 go_ret
 exact ⟨rfl, rfl⟩
set_option maxRecDepth 100000 in
set_option maxHeartbeats 2000000 in
theorem size_bad1 (s : ByteArray) (w : World) (c0 : UInt8) (h0 : 0 < s.size) (_hs : s.size ≤ 10000) (e0 : s[0]'h0 = c0) (_p0 : (128 : Int) ≤ (c0.toNat : Int)) (_p1 : (c0.toNat : Int) < 194) :
  Calls Tryz.prog 112 #[.string s] w fun e w' => e = .returned (.int .i64 0) ∧ w' = w := by
 go_enter Tryz.func112, Tryz.ntmps112
 go_wp2
 go_ret
 exact ⟨rfl, rfl⟩
set_option maxRecDepth 100000 in
set_option maxHeartbeats 2000000 in
theorem size_bad2 (s : ByteArray) (w : World) (c0 : UInt8) (h0 : 0 < s.size) (_hs : s.size ≤ 10000) (e0 : s[0]'h0 = c0) (_p0 : (245 : Int) ≤ (c0.toNat : Int)) (_p1 : (c0.toNat : Int) < 256) :
  Calls Tryz.prog 112 #[.string s] w fun e w' => e = .returned (.int .i64 0) ∧ w' = w := by
 go_enter Tryz.func112, Tryz.ntmps112
 go_wp2
 go_ret
 exact ⟨rfl, rfl⟩
set_option maxRecDepth 100000 in
set_option maxHeartbeats 2000000 in
theorem size_short2 (s : ByteArray) (w : World) (c0 : UInt8) (h0 : 0 < s.size) (_hs : s.size ≤ 10000) (e0 : s[0]'h0 = c0) (_p0 : (194 : Int) ≤ (c0.toNat : Int)) (_p1 : (c0.toNat : Int) < 224) (_p2 : (s.size : Int) < 2) :
  Calls Tryz.prog 112 #[.string s] w fun e w' => e = .returned (.int .i64 0) ∧ w' = w := by
 go_enter Tryz.func112, Tryz.ntmps112
 go_wp2
 go_ret
 exact ⟨rfl, rfl⟩
set_option maxRecDepth 100000 in
set_option maxHeartbeats 2000000 in
theorem size_lo21 (s : ByteArray) (w : World) (c0 c1 : UInt8) (h0 : 0 < s.size) (h1 : 1 < s.size) (_hs : s.size ≤ 10000) (e0 : s[0]'h0 = c0) (e1 : s[1]'h1 = c1) (_p0 : (194 : Int) ≤ (c0.toNat : Int)) (_p1 : (c0.toNat : Int) < 224) (_p2 : (2 : Int) ≤ (s.size : Int)) (_p3 : (c1.toNat : Int) < 128) :
  Calls Tryz.prog 112 #[.string s] w fun e w' => e = .returned (.int .i64 0) ∧ w' = w := by
 have ha : bits .and .i64 (c0.toNat : Int) 31 = ((c0.toNat % 32 : Nat) : Int) := and31 ⟨c0.toNat, c0.toNat_lt⟩
 go_enter Tryz.func112, Tryz.ntmps112
 go_wp2
 refine wp_loop_rounds 1 ?_
 rw [rounds_succ]
 go_wp2
 go_ret
 exact ⟨rfl, rfl⟩
set_option maxRecDepth 100000 in
set_option maxHeartbeats 2000000 in
theorem size_hi21 (s : ByteArray) (w : World) (c0 c1 : UInt8) (h0 : 0 < s.size) (h1 : 1 < s.size) (_hs : s.size ≤ 10000) (e0 : s[0]'h0 = c0) (e1 : s[1]'h1 = c1) (_p0 : (194 : Int) ≤ (c0.toNat : Int)) (_p1 : (c0.toNat : Int) < 224) (_p2 : (2 : Int) ≤ (s.size : Int)) (_p3 : (191 : Int) < (c1.toNat : Int)) :
  Calls Tryz.prog 112 #[.string s] w fun e w' => e = .returned (.int .i64 0) ∧ w' = w := by
 have ha : bits .and .i64 (c0.toNat : Int) 31 = ((c0.toNat % 32 : Nat) : Int) := and31 ⟨c0.toNat, c0.toNat_lt⟩
 go_enter Tryz.func112, Tryz.ntmps112
 go_wp2
 refine wp_loop_rounds 1 ?_
 rw [rounds_succ]
 go_wp2
 go_ret
 exact ⟨rfl, rfl⟩
set_option maxRecDepth 100000 in
set_option maxHeartbeats 2000000 in
theorem size_two (s : ByteArray) (w : World) (c0 c1 : UInt8) (h0 : 0 < s.size) (h1 : 1 < s.size) (_hs : s.size ≤ 10000) (e0 : s[0]'h0 = c0) (e1 : s[1]'h1 = c1) (_p0 : (194 : Int) ≤ (c0.toNat : Int)) (_p1 : (c0.toNat : Int) < 224) (_p2 : (2 : Int) ≤ (s.size : Int)) (_p3 : (128 : Int) ≤ (c1.toNat : Int)) (_p4 : (c1.toNat : Int) ≤ 191) :
  Calls Tryz.prog 112 #[.string s] w fun e w' => e = .returned (.int .i64 2) ∧ w' = w := by
 have ha : bits .and .i64 (c0.toNat : Int) 31 = ((c0.toNat % 32 : Nat) : Int) := and31 ⟨c0.toNat, c0.toNat_lt⟩
 go_enter Tryz.func112, Tryz.ntmps112
 go_wp2
 refine wp_loop_rounds 2 ?_
 rw [rounds_succ]
 go_wp2
 rw [rounds_succ]
 go_wp2
 go_ret
 exact ⟨rfl, rfl⟩
end Go.Proofs.YtkbinfhclaafhaaGreatDoor
