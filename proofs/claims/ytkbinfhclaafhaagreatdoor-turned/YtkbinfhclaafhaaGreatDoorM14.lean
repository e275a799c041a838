import Derived.Test.YtkbinfhclaafhaaGreatDoorM13
import Derived.Laws.CopyOwn
import Derived.Lib.SmallJoins
import Derived.Test.YtkbinfhclaafhaaGreatDoorM07
import Derived.Test.YtkbinfhclaafhaaGreatDoorM02
namespace Go.Proofs.YtkbinfhclaafhaaGreatDoor
open Go.RowKit
theorem set_grown (W : World) (b i : Nat) (v : Value) : W.grownBy (W.setCell ⟨b, i, none⟩ v) (some b) := ⟨rfl, rfl, rfl, by simp, fun k _ hne => Below.heap_setCell _ _ _ _ (fun e => hne (by rw [e]))⟩
theorem alloc_grown2 (w : World) (a : Obj) (r : Option Nat) : w.grownBy (w.alloc a) r := ⟨rfl, rfl, rfl, by simp, fun k hk _ => Below.heap_alloc w a k hk⟩
theorem copy_all {P : Program} {w : World} {sT e ty : TypeId} {B g gs n cs : Nat} {xs : List Value} {cur : Array Value} (hu : P.underlying sT = some (.slice e)) (hs : (P.info? e).map (·.size) = some 1) (hg : w.heap[g]? = some (.cells cur e (0, 0))) (hc : cur.size = n) (hr : w.ownsRow B e 1 (.slice (some ⟨gs, 0, none⟩) n cs) n xs) (h1 : ∀ v ∈ xs, v.oneCell' = true) :
  ∃ w', (Builtin.copy_ #[sT, sT] ty #[.slice (some ⟨g, 0, none⟩) n n, .slice (some ⟨gs, 0, none⟩) n cs]).run P w = .ok (.int .i64 n) w' ∧ w'.heap[g]? = some (.cells xs.toArray e (0, 0)) ∧ w.grownBy w' (some g) := by
 have hxl : xs.length = n := by have := hr.1; simpa using this
 have hcp := run_copy_row (P := P) w sT sT ty e g 0 n n ⟨gs, 0, none⟩ n cs cur e xs hu hs hg (by rw [hxl]; exact (Nat.min_self n).symm) (fun j v hj => World.ownsRow.cells hr rfl j v hj) (by rw [hxl, hc]; omega) h1
 have e1 : cur.toList.take 0 ++ xs ++ cur.toList.drop (0 + xs.length) = xs := by
  rw [List.take_zero, List.nil_append, List.drop_eq_nil_of_le (by rw [hxl]; simp; omega), List.append_nil]
 rw [e1, hxl] at hcp
 refine ⟨_, hcp, setRow_heap _ _ _ _ _ _ hg, ⟨rfl, rfl, rfl, by simp [World.setRow], fun k _ hne => setRow_other w g k _ (fun e => hne (by rw [e]))⟩⟩
def LB (W : World) (lb : Nat) (a0 a1 a2 a3 a4 a5 : Value) : Prop := W.heap[lb]? = some (.cells #[a0, a1, a2, a3, a4, a5] 141 (0, 0))
section
variable {W W' : World} {lb : Nat} {a0 a1 a2 a3 a4 a5 : Value}
theorem LB.c1 (h : LB W lb a0 a1 a2 a3 a4 a5) : W.cell? ⟨lb, 1, none⟩ = some a1 := heap_cell h 1
theorem LB.c2 (h : LB W lb a0 a1 a2 a3 a4 a5) : W.cell? ⟨lb, 2, none⟩ = some a2 ∧ W.frozen? ⟨lb, 2, none⟩ = false := ⟨heap_cell h 2, heap_free h 2⟩
theorem LB.c3 (h : LB W lb a0 a1 a2 a3 a4 a5) : W.cell? ⟨lb, 3, none⟩ = some a3 ∧ W.frozen? ⟨lb, 3, none⟩ = false := ⟨heap_cell h 3, heap_free h 3⟩
theorem LB.c4 (h : LB W lb a0 a1 a2 a3 a4 a5) : W.cell? ⟨lb, 4, none⟩ = some a4 ∧ W.frozen? ⟨lb, 4, none⟩ = false := ⟨heap_cell h 4, heap_free h 4⟩
theorem LB.c5 (h : LB W lb a0 a1 a2 a3 a4 a5) : W.cell? ⟨lb, 5, none⟩ = some a5 ∧ W.frozen? ⟨lb, 5, none⟩ = false := ⟨heap_cell h 5, heap_free h 5⟩
theorem LB.grown {r : Option Nat} (h : LB W lb a0 a1 a2 a3 a4 a5) (hg : W.grownBy W' r) (hne : some lb ≠ r) : LB W' lb a0 a1 a2 a3 a4 a5 := (hg.block lb (heap_lt h) hne).trans h
theorem LB.below (h : LB W lb a0 a1 a2 a3 a4 a5) (hb : Below W.heap.size W W') : LB W' lb a0 a1 a2 a3 a4 a5 := heap_keep hb h
theorem LB.s2 (h : LB W lb a0 a1 a2 a3 a4 a5) (v : Value) : LB (W.setCell ⟨lb, 2, none⟩ v) lb a0 a1 v a3 a4 a5 := by unfold LB; rw [Joins.block_setCell h]; rfl
theorem LB.s3 (h : LB W lb a0 a1 a2 a3 a4 a5) (v : Value) : LB (W.setCell ⟨lb, 3, none⟩ v) lb a0 a1 a2 v a4 a5 := by unfold LB; rw [Joins.block_setCell h]; rfl
theorem LB.s4 (h : LB W lb a0 a1 a2 a3 a4 a5) (v : Value) : LB (W.setCell ⟨lb, 4, none⟩ v) lb a0 a1 a2 a3 v a5 := by unfold LB; rw [Joins.block_setCell h]; rfl
theorem LB.s5 (h : LB W lb a0 a1 a2 a3 a4 a5) (v : Value) : LB (W.setCell ⟨lb, 5, none⟩ v) lb a0 a1 a2 a3 a4 v := by unfold LB; rw [Joins.block_setCell h]; rfl
end
theorem own_grown2 {w w' : World} {B g n c : Nat} {e : TypeId} {xs : List Value} {r : Nat} (h : w.ownsRow B e 1 (.slice (some ⟨g, 0, none⟩) n c) n xs) (hg : w.grownBy w' (some r)) (hne : g ≠ r) : w'.ownsRow B e 1 (.slice (some ⟨g, 0, none⟩) n c) n xs :=
 own_grown h hg (.inr (by simp [Value.ownBlock]; exact hne))
theorem Tryz.sizeCls : (Tryz.prog.info? 108).map (·.size) = some 1 := by kernel_rfl
end Go.Proofs.YtkbinfhclaafhaaGreatDoor
namespace Go.Proofs.YtkbinfhclaafhaaGreatDoor
open Go.RowKit
set_option maxRecDepth 100000 in
set_option maxHeartbeats 8000000 in
theorem ended_row (cs lv : List Int) (lf : List Bool) (para : Int) (at' : List Nat) (n m gc oc cc gl ol cl gf of' cf ga oa ca : Nat) (w : World) (hc : cs.length = n) (hl : lv.length = n) (hf : lf.length = n) (hn : n ≤ 100000) (hm : at'.length = m) (hm0 : 0 < m) (hm1 : m ≤ 100000) (hat : ∀ p ∈ at', p < n)
  (hlv : ∀ l ∈ lv, 0 ≤ l ∧ l ≤ 1000) (hp : 0 ≤ para ∧ para ≤ 1000) (hci : IntsAt w gc oc cs) (hli : IntsAt w gl ol lv) (hfi : BoolsAt w gf of' lf) (hai : IntsAt w ga oa (nl at')) (hgc : gc < w.heap.size) (hgl : gl < w.heap.size) (hgf : gf < w.heap.size) (hga : ga < w.heap.size) :
  Calls Tryz.prog 123 #[.slice (some ⟨gc, oc, none⟩) n cc, .slice (some ⟨gl, ol, none⟩) n cl, .slice (some ⟨gf, of', none⟩) n cf, .int .i64 para, .slice (some ⟨ga, oa, none⟩) m ca] w fun ev w' => ev = .returned (.agg #[.slice (some ⟨ga, oa, none⟩) m ca, .int .i64 (endedS cs lv lf para at').level, .int .i64 (endedS cs lv lf para at').sos, .int .i64 (endedS cs lv lf para at').eos]) ∧ Below w.heap.size w w' := by
 have hne : at' ≠ [] := by intro e; rw [e] at hm; simp at hm; omega
 obtain ⟨a0, ha0⟩ : ∃ a0, a0 = at'.headD 0 := ⟨_, rfl⟩
 obtain ⟨la, hla⟩ : ∃ la, la = at'.getLastD 0 := ⟨_, rfl⟩
 have ha0n : a0 < n := by rw [ha0]; exact hat _ (head_mem hne)
 have hlan : la < n := by rw [hla]; exact hat _ (last_mem hne)
 obtain ⟨lev, hlev⟩ : ∃ lev, lev = lv.getD a0 0 := ⟨_, rfl⟩
 have hlevb : 0 ≤ lev ∧ lev ≤ 1000 := by rw [hlev]; exact hlv _ (getD_mem (by rw [hl]; exact ha0n))
 have HQ : Hid (endedS cs lv lf para at' = ⟨at', lev, sideS lev (befF lv lf para a0), sideS lev (behS cs lv lf para la)⟩) := by
  show _ = _
  rw [hlev, ha0, hla]; rfl
 rw [HQ.out]
 simp only
 have hget : ∀ k, k < n → 0 ≤ lv.getD k 0 ∧ lv.getD k 0 ≤ 1000 := fun k hk => hlv _ (getD_mem (by rw [hl]; exact hk))
 have HBef : Hid (∀ k, k ≤ n → 0 ≤ befF lv lf para k ∧ befF lv lf para k ≤ 1000) := by
  intro k
  induction k with
  | zero => intro _; exact hp
  | succ k ih => intro hk; rw [befF]; split; exact hget k (by omega); exact ih (by omega)
 have HBeh : Hid (∀ k, k ≤ n → 0 ≤ behF lv lf para n k ∧ behF lv lf para n k ≤ 1000) := by
  intro k
  induction k with
  | zero => intro _; exact hp
  | succ k ih => intro hk; rw [behF]; split; exact hget _ (by omega); exact ih (by omega)
 have HP : Hid (0 ≤ para ∧ para ≤ 1000) := hp
 have HLn : Hid (cs.length = n ∧ lv.length = n ∧ lf.length = n) := ⟨hc, hl, hf⟩
 have cA0 : w.cell? ⟨ga, oa, none⟩ = some (.int .i64 (a0 : Nat)) := by
  have := hai 0 (by rw [nl_length]; omega)
  rw [nl_getD _ _ (by omega), Nat.add_zero] at this
  rw [this, ha0]
  cases at' with
  | nil => exact absurd rfl hne
  | cons a l => rfl
 have cAl : w.cell? ⟨ga, oa + (m - 1), none⟩ = some (.int .i64 (la : Nat)) := by
  have := hai (m - 1) (by rw [nl_length]; omega)
  rw [nl_getD _ _ (by omega)] at this
  rw [this, hla]
  congr 3
  rw [List.getLastD_eq_getLast?, List.getLast?_eq_getElem?, hm, List.getD_eq_getElem?_getD]
 have cL0 := hli a0 (by rw [hl]; exact ha0n)
 rw [← hlev] at cL0
 have cCl := hci la (by rw [hc]; exact hlan)
 obtain ⟨cla, hcla⟩ : ∃ cla, cla = cs.getD la 0 := ⟨_, rfl⟩
 rw [← hcla] at cCl
 obtain ⟨W1, hW1⟩ : ∃ W1, W1 = (w.alloc (.cells #[.slice none 0 0, .int .i64 0, .int .i64 0, .int .i64 0] 120)).alloc (.cells #[.slice (some ⟨ga, oa, none⟩) m ca, .int .i64 lev, .int .i64 0, .int .i64 0] 120) := ⟨_, rfl⟩
 have hb1 : Below w.heap.size w W1 := by rw [hW1]; exact ((Below.refl _ _).alloc (Nat.le_refl _) _).alloc (by simp) _
 have HB1 : Hid (Below w.heap.size w W1) := hb1
 have HCI : Hid (IntsAt W1 gc oc cs) := hci.stay hb1 hgc
 have HLI : Hid (IntsAt W1 gl ol lv) := hli.stay hb1 hgl
 have HFI : Hid (BoolsAt W1 gf of' lf) := hfi.stay hb1 hgf
 have HA0 : Hid (W1.cell? ⟨ga, oa, none⟩ = some (.int .i64 (a0 : Nat)) ∧ W1.cell? ⟨ga, oa + (m - 1), none⟩ = some (.int .i64 (la : Nat)) ∧ W1.cell? ⟨gc, oc + la, none⟩ = some (.int .i64 cla)) := ⟨by rw [hb1.cell (p := ⟨ga, oa, none⟩) hga]; exact cA0, by rw [hb1.cell (p := ⟨ga, oa + (m - 1), none⟩) hga]; exact cAl, by rw [hb1.cell (p := ⟨gc, oc + la, none⟩) hgc]; exact cCl⟩
 have HCla : Hid (cla = cs.getD la 0) := hcla
 have hbA : Below w.heap.size w (w.alloc (.cells #[.slice none 0 0, .int .i64 0, .int .i64 0, .int .i64 0] 120)) := (Below.refl _ _).alloc (Nat.le_refl _) _
 have eA0 : (w.alloc (.cells #[.slice none 0 0, .int .i64 0, .int .i64 0, .int .i64 0] 120)).cell? ⟨ga, oa, none⟩ = some (.int .i64 (a0 : Nat)) := by rw [hbA.cell (p := ⟨ga, oa, none⟩) hga]; exact cA0
 have eL0 : (w.alloc (.cells #[.slice none 0 0, .int .i64 0, .int .i64 0, .int .i64 0] 120)).cell? ⟨gl, ol + a0, none⟩ = some (.int .i64 lev) := by rw [hbA.cell (p := ⟨gl, ol + a0, none⟩) hgl]; exact cL0
 have HGC : Hid (gc < W1.heap.size) := by have := hb1.size; show gc < W1.heap.size; omega
 have HW1 : Hid (W1 = (w.alloc (.cells #[.slice none 0 0, .int .i64 0, .int .i64 0, .int .i64 0] 120)).alloc (.cells #[.slice (some ⟨ga, oa, none⟩) m ca, .int .i64 lev, .int .i64 0, .int .i64 0] 120)) := hW1
 clear hbA cA0 cL0
 clear hci hli hfi hai hgc hgl hgf hc hl hf hat hlv hp hget hne ha0 hla hlev hcla hb1 cCl cAl hga
 go_enter Tryz.func123, Tryz.ntmps123
 go_wp2
 rw [← hW1]
 clear hW1 eA0 eL0
 obtain ⟨q0, q1, q2⟩ := HA0.out
 go_loopg [12, 13] a0 (fun gh bv kv W => ∃ k : Nat, k ≤ a0 ∧ gh = a0 - k ∧ bv = .int .i64 (befF lv lf para k) ∧ kv = .int .i64 k ∧ W = W1)
 case atStart => exact ⟨0, by omega, rfl, rfl, rfl, rfl⟩
 case round =>
  obtain ⟨k, hk, rfl, rfl, rfl, hW⟩ := hrel
  have hW' := hW.symm
  subst hW'
  by_cases hlt : k < a0
  ·have cf' := HFI.out k (by rw [HLn.out.2.2]; omega)
   have cl' := HLI.out k (by rw [HLn.out.2.1]; omega)
   have hs := show befF lv lf para (k + 1) = if lf.getD k false = true then lv.getD k 0 else befF lv lf para k from rfl
   have hkn : k < n := by omega
   generalize lv.getD k 0 = l at *
   cases hb : lf.getD k false
   ·rw [hb] at cf' hs
    have HS : Hid (befF lv lf para (k + 1) = befF lv lf para k) := by show _ = _; rw [hs]; rfl
    clear hs hb
    go_wp2
    go_roundg (a0 - (k + 1))
    case measure => omega
    case rel => exact ⟨k + 1, by omega, rfl, by rw [HS.out], by simp, rfl⟩
   ·rw [hb] at cf' hs
    have HS : Hid (befF lv lf para (k + 1) = l) := by show _ = _; rw [hs]; rfl
    clear hs hb
    go_wp2
    go_roundg (a0 - (k + 1))
    case measure => omega
    case rel => exact ⟨k + 1, by omega, rfl, by rw [HS.out], by simp, rfl⟩
  ·obtain rfl : a0 = k := by omega
   clear hlt
   obtain ⟨m', rfl⟩ : ∃ m', m = m' + 1 := ⟨m - 1, by omega⟩
   rw [Nat.add_sub_cancel] at q1
   have HBa := HBef.out a0 (by omega)
   generalize hbe : befF lv lf para a0 = bef at *
   have HBE : Hid (befF lv lf para a0 = bef) := hbe
   clear hbe
   go_wp2_with fail
   refine (isolate_any cla _).mono ?_
   rintro ev wx ⟨rfl, hx⟩
   have hx' := hx.symm
   subst hx'
   go_wp2
   go_loopg [15, 17] (n - (la + 1)) (fun gh bv kv W => ∃ j : Nat, j ≤ n - (la + 1) ∧ gh = n - (la + 1) - j ∧ bv = .int .i64 (behF lv lf para n j) ∧ kv = .int .i64 ((n : Int) - 1 - j) ∧ W = W1)
   case atStart => exact ⟨0, by omega, rfl, rfl, by simp, rfl⟩
   case round =>
    obtain ⟨j, hj, rfl, rfl, rfl, hW⟩ := hrel
    have hW' := hW.symm
    subst hW'
    by_cases hlt : j < n - (la + 1)
    ·obtain ⟨p, hp⟩ : ∃ p, p = n - (j + 1) := ⟨_, rfl⟩
     have hpi : (n : Int) - 1 - (j : Int) = (p : Int) := by omega
     rw [hpi]
     have hpn : p < n := by omega
     have hpl : la < p := by omega
     have cf' := HFI.out p (by rw [HLn.out.2.2]; exact hpn)
     have cl' := HLI.out p (by rw [HLn.out.2.1]; exact hpn)
     have hs := show behF lv lf para n (j + 1) = if lf.getD (n - (j + 1)) false = true then lv.getD (n - (j + 1)) 0 else behF lv lf para n j from rfl
     rw [← hp] at hs
     have HPI : Hid ((p : Int) - 1 = (n : Int) - 1 - ((j + 1 : Nat) : Int)) := by show _ = _; omega
     generalize lv.getD p 0 = l at *
     clear hp hpi
     cases hb : lf.getD p false
     ·rw [hb] at cf' hs
      have HS : Hid (behF lv lf para n (j + 1) = behF lv lf para n j) := by show _ = _; rw [hs]; rfl
      clear hs hb
      go_wp2
      go_roundg (n - (la + 1) - (j + 1))
      case measure => omega
      case rel => exact ⟨j + 1, by omega, rfl, by rw [HS.out], by rw [HPI.out], rfl⟩
     ·rw [hb] at cf' hs
      have HS : Hid (behF lv lf para n (j + 1) = l) := by show _ = _; rw [hs]; rfl
      clear hs hb
      go_wp2
      go_roundg (n - (la + 1) - (j + 1))
      case measure => omega
      case rel => exact ⟨j + 1, by omega, rfl, by rw [HS.out], by rw [HPI.out], rfl⟩
    ·obtain rfl : j = n - (la + 1) := by omega
     rw [show (n : Int) - 1 - ((n - (la + 1) : Nat) : Int) = (la : Int) by omega]
     clear hlt
     have HBb := HBeh.out (n - (la + 1)) (by omega)
     have hbs : behS cs lv lf para la = if isoB cla = true ∧ mt cs la = n then para else behF lv lf para n (n - (la + 1)) := by unfold behS; rw [← HCla.out, HLn.out.1]
     generalize behF lv lf para n (n - (la + 1)) = beh at *
     cases hiso : isoB cla
     ·have HBS : Hid (behS cs lv lf para la = beh) := by show _ = _; rw [hbs, hiso, if_neg (by simp)]
      clear hbs hiso
      rw [HW1.out]
      go_wp2_with fail
      refine (side_any lev bef _ hlevb.1 hlevb.2 HBa.1 HBa.2).mono ?_
      rintro ev wx ⟨rfl, rfl⟩
      generalize hs1 : sideS lev bef = s1 at *
      have HS1 : Hid (sideS lev bef = s1) := hs1
      clear hs1
      go_wp2_with fail
      refine (side_any lev beh _ hlevb.1 hlevb.2 HBb.1 HBb.2).mono ?_
      rintro ev wx ⟨rfl, rfl⟩
      generalize hs2 : sideS lev beh = s2 at *
      have HS2 : Hid (sideS lev beh = s2) := hs2
      clear hs2
      go_wp2
      refine bodyPost_ret (v := .agg #[.slice (some ⟨ga, oa, none⟩) (m' + 1) ca, .int .i64 lev, .int .i64 s1, .int .i64 s2]) (by simp [results, Tryz.results123, Tryz.isAgg120, Tryz.sizeOf120, go_sem]) rfl ⟨?_, ?_⟩
      ·rw [HBE.out, HS1.out, HBS.out, HS2.out]
      ·exact ((Below.refl _ _).alloc (Nat.le_refl _) _).alloc (by simp) _
     ·have hmle := mt_le cs la (by rw [HLn.out.1]; omega)
      rw [hiso] at hbs
      have HMC : Hid (Calls Tryz.prog 115 #[.slice (some ⟨gc, oc, none⟩) n cc, .int .i64 la] W1 fun e w2 => e = .returned (.int .i64 (mt cs la)) ∧ w2 = W1) := matching_row cs la gc oc cc n W1 HLn.out.1 (by omega) (by omega) HCI.out
      generalize mt cs la = z at *
      clear hiso
      by_cases hz : z = n
      ·have HBS : Hid (behS cs lv lf para la = para) := by show _ = _; rw [hbs, if_pos ⟨rfl, hz⟩]
       have HPP := HP.out
       have hz' : ((z : Int) == (n : Int)) = true := by simp [hz]
       clear hbs hz hmle
       go_wp2_with fail
       refine HMC.out.mono ?_
       rintro ev wx ⟨rfl, hx⟩
       have hx' := hx.symm
       subst hx'
       rw [HW1.out]
       go_wp2_with fail
       refine (side_any lev bef _ hlevb.1 hlevb.2 HBa.1 HBa.2).mono ?_
       rintro ev wx ⟨rfl, rfl⟩
       generalize hs1 : sideS lev bef = s1 at *
       have HS1 : Hid (sideS lev bef = s1) := hs1
       clear hs1
       go_wp2_with fail
       refine (side_any lev para _ hlevb.1 hlevb.2 HPP.1 HPP.2).mono ?_
       rintro ev wx ⟨rfl, rfl⟩
       generalize hs2 : sideS lev para = s2 at *
       have HS2 : Hid (sideS lev para = s2) := hs2
       clear hs2
       go_wp2
       refine bodyPost_ret (v := .agg #[.slice (some ⟨ga, oa, none⟩) (m' + 1) ca, .int .i64 lev, .int .i64 s1, .int .i64 s2]) (by simp [results, Tryz.results123, Tryz.isAgg120, Tryz.sizeOf120, go_sem]) rfl ⟨?_, ?_⟩
       ·rw [HBE.out, HS1.out, HBS.out, HS2.out]
       ·exact ((Below.refl _ _).alloc (Nat.le_refl _) _).alloc (by simp) _
      ·have HBS : Hid (behS cs lv lf para la = beh) := by show _ = _; rw [hbs, if_neg (fun h => hz h.2)]
       have hz' : ((z : Int) == (n : Int)) = false := by simp; omega
       clear hbs hz hmle
       go_wp2_with fail
       refine HMC.out.mono ?_
       rintro ev wx ⟨rfl, hx⟩
       have hx' := hx.symm
       subst hx'
       rw [HW1.out]
       go_wp2_with fail
       refine (side_any lev bef _ hlevb.1 hlevb.2 HBa.1 HBa.2).mono ?_
       rintro ev wx ⟨rfl, rfl⟩
       generalize hs1 : sideS lev bef = s1 at *
       have HS1 : Hid (sideS lev bef = s1) := hs1
       clear hs1
       go_wp2_with fail
       refine (side_any lev beh _ hlevb.1 hlevb.2 HBb.1 HBb.2).mono ?_
       rintro ev wx ⟨rfl, rfl⟩
       generalize hs2 : sideS lev beh = s2 at *
       have HS2 : Hid (sideS lev beh = s2) := hs2
       clear hs2
       go_wp2
       refine bodyPost_ret (v := .agg #[.slice (some ⟨ga, oa, none⟩) (m' + 1) ca, .int .i64 lev, .int .i64 s1, .int .i64 s2]) (by simp [results, Tryz.results123, Tryz.isAgg120, Tryz.sizeOf120, go_sem]) rfl ⟨?_, ?_⟩
       ·rw [HBE.out, HS1.out, HBS.out, HS2.out]
       ·exact ((Below.refl _ _).alloc (Nat.le_refl _) _).alloc (by simp) _
end Go.Proofs.YtkbinfhclaafhaaGreatDoor
namespace Go.Proofs.YtkbinfhclaafhaaGreatDoor
open Go.RowKit
theorem wpList_appA {P : Program} (w : World) {ops : Array Oper} {rest : List Oper} {o : Oper} {a : Act} {Q : Exit → Act → World → Prop} (hgd : o.guard = none) (s x : Operand) (t : TypeId)
  (ho : o.op = .call { callee := .builtin .append, args := #[s, x], argTypes := #[t, t] })
  (base : Nat) (e : TypeId) (i : TypeInfo) (z : Value) (bytes : Nat) (ht : P.underlying t = some (.slice e)) (hi : P.info? e = some i) (hz : i.zero = some z)
  (hsize : i.size = 1) (hby : i.bytes = bytes) (hzs : z.cells.size = 1) (hb64 : bytes ≤ 64)
  (v : Value) (n : Nat) (xs : List Value) (hs : a.eval s = v) (hown : w.ownsRow base e 1 v n xs)
  (g m c : Nat) (news : List Value) (hx : a.eval x = .slice (some ⟨g, 0, none⟩) m c) (hl : news.length = m) (hnews : ∀ j u, news[j]? = some u → w.cell? ⟨g, j, none⟩ = some u) (h1 : ∀ u ∈ news, u.oneCell' = true) (hn : n ≤ 1000000) (hm : m ≤ 1000000) (hbase : base ≤ w.heap.size)
  (h : ∀ v' w', w'.ownsRow base e 1 v' (n + m) (xs ++ news) → w.grownBy w' v.ownBlock → (v'.ownBlock = v.ownBlock ∨ v'.ownBlock = some w.heap.size) → wpList P ops Q rest (a.put o.dst v') w') : wpList P ops Q (o :: rest) a w := by
 refine wpList_append_own_at _ hgd s x t ho base e i z 1 bytes ht hi hz hsize hby hzs (by decide) v n xs hs hown ⟨g, 0, none⟩ m c news hx (by omega) ?_ h1 ?_ ?_ hbase ?_
 ·intro j u hj
  have := hnews j u hj
  simp only [Addr.add]
  split
  ·rename_i h0; subst h0; exact this
  ·simpa using this
 ·unfold maxLen; omega
 ·have : (n + m) * bytes ≤ 2000000 * 64 := Nat.mul_le_mul (by omega) hb64
  omega
 ·intro v' w' h2 h3 _ h5
  exact h v' w' h2 h3 h5
theorem wpList_pushQ {P : Program} (w : World) {ops : Array Oper} {rest : List Oper} {o : Oper} {a : Act} {Q : Exit → Act → World → Prop} (hgd : o.guard = none) (s x : Operand) (t : TypeId)
  (ho : o.op = .call { callee := .builtin .append, args := #[s, x], argTypes := #[t, t] })
  (base : Nat) (e : TypeId) (i : TypeInfo) (z : Value) (bytes : Nat) (ht : P.underlying t = some (.slice e)) (hi : P.info? e = some i) (hz : i.zero = some z)
  (hsize : i.size = 4) (hby : i.bytes = bytes) (hzs : z.cells.size = 4) (hb64 : bytes ≤ 64)
  (v : Value) (n : Nat) (xs : List Value) (hs : a.eval s = v) (hown : w.ownsRow base e 4 v n xs)
  (y0 y1 y2 y3 : Value) (e' : TypeId) (k : Nat) (hx : a.eval x = .slice (some ⟨k, 0, none⟩) 1 1) (hk : k = w.heap.size) (h0 : y0.oneCell' = true) (h1 : y1.oneCell' = true) (h2 : y2.oneCell' = true) (h3 : y3.oneCell' = true) (hn : n ≤ 1000000) (hbase : base ≤ w.heap.size)
  (h : ∀ v' w', w'.ownsRow base e 4 v' (n + 1) (xs ++ [y0, y1, y2, y3]) → w.grownBy w' v.ownBlock → wpList P ops Q rest (a.put o.dst v') w') : wpList P ops Q (o :: rest) a (w.alloc (.cells #[y0, y1, y2, y3] e')) := by
 subst hk
 refine wpList_append_own _ hgd s x t ho base e i z 4 bytes ht hi hz hsize hby hzs (by decide) v n xs hs (hown.alloc _) ⟨w.heap.size, 0, none⟩ 1 1 [y0, y1, y2, y3] hx rfl ?_ ?_ ?_ ?_ ?_ ?_
 ·intro j u hj
  match j, hj with
  | 0, hj => simp at hj; subst hj; simp [Addr.add]
  | 1, hj => simp at hj; subst hj; simp [Addr.add]
  | 2, hj => simp at hj; subst hj; simp [Addr.add]
  | 3, hj => simp at hj; subst hj; simp [Addr.add]
 ·intro u hu; simp at hu; rcases hu with rfl | rfl | rfl | rfl
  ·exact h0
  ·exact h1
  ·exact h2
  ·exact h3
 ·unfold maxLen; omega
 ·have : (n + 1) * bytes ≤ 1000001 * 64 := Nat.mul_le_mul (by omega) hb64
  omega
 ·simp; omega
 ·intro v' w' h2 h3 _
  refine h v' w' h2 ⟨h3.os, h3.tape, h3.output, ?_, fun k hk hne => ?_⟩
  ·have := h3.size; simp at this; omega
  ·rw [h3.block k (by simp; omega) hne]
   exact Below.heap_alloc w _ k hk
def sqV : List Value → List Sq → List Value
 | a :: avs, s :: ss => a :: .int .i64 s.level :: .int .i64 s.sos :: .int .i64 s.eos :: sqV avs ss
 | _, _ => []
theorem sqV_snoc : ∀ (avs : List Value) (ss : List Sq) (a : Value) (s : Sq), avs.length = ss.length → sqV (avs ++ [a]) (ss ++ [s]) = sqV avs ss ++ [a, .int .i64 s.level, .int .i64 s.sos, .int .i64 s.eos]
 | [], [], a, s, _ => rfl
 | b :: avs, t :: ss, a, s, h => by simp [sqV, sqV_snoc avs ss a s (by simpa using h)]
structure QSt (w0 w : World) (B : Nat) (rsv ov cv : Value) (vs avs : List Value) (rs : List (List Nat)) (ss : List Sq) (cur : List Nat) : Prop where
 below : Below B w0 w
 base : B ≤ w.heap.size
 rsr : w.ownsRow B 31 1 rsv rs.length vs
 old : ∀ i, i < rs.length → w.ownsRow B 3 1 (vs.getD i .nilFunc) (rs.getD i []).length (iv (nl (rs.getD i [])))
 out : w.ownsRow B 120 4 ov ss.length (sqV avs ss)
 alen : avs.length = ss.length
 done : ∀ i, i < ss.length → w.ownsRow B 3 1 (avs.getD i .nilFunc) (ss.getD i ⟨[], 0, 0, 0⟩).at'.length (iv (nl (ss.getD i ⟨[], 0, 0, 0⟩).at'))
 cur' : w.ownsRow B 3 1 cv cur.length (iv (nl cur))
 aptO : ∀ i, i < rs.length → Apt (vs.getD i .nilFunc).ownBlock cv.ownBlock
 aptD : ∀ i, i < ss.length → Apt (avs.getD i .nilFunc).ownBlock cv.ownBlock
section
variable {w0 w w' : World} {B : Nat} {rsv ov cv : Value} {vs avs : List Value} {rs : List (List Nat)} {ss : List Sq} {cur : List Nat}
theorem QSt.call (h : QSt w0 w B rsv ov cv vs avs rs ss cur) (hb : Below w.heap.size w w') : QSt w0 w' B rsv ov cv vs avs rs ss cur :=
 ⟨h.below.trans (hb.mono h.base), Nat.le_trans h.base hb.size, own_below h.rsr hb, fun i hi => own_below (h.old i hi) hb, own_below h.out hb, h.alen, fun i hi => own_below (h.done i hi) hb, own_below h.cur' hb, h.aptO, h.aptD⟩
theorem QSt.drop (h : QSt w0 w B rsv ov cv vs avs rs ss cur) : QSt w0 w B rsv ov (.slice none 0 0) vs avs rs ss [] :=
 ⟨h.below, h.base, h.rsr, h.old, h.out, h.alen, h.done, ⟨rfl, .inl ⟨rfl, rfl⟩⟩, fun _ _ k _ hk => (by cases hk), fun _ _ k _ hk => (by cases hk)⟩
theorem Apt.fresh {w : World} {a a' b : Option Nat} (h : Apt b a) (h1 : a' = a ∨ a' = some w.heap.size) (hb : ∀ k, b = some k → k < w.heap.size) : Apt b a' := by
 intro k h2 h3
 rcases h1 with rfl | h1
 ·exact h k h2 h3
 ·rw [h1] at h3
  have := Option.some.inj h3
  have := hb k h2
  omega
theorem QSt.app {cv' : Value} {r : List Nat} (h : QSt w0 w B rsv ov cv vs avs rs ss cur) (h1 : w'.ownsRow B 3 1 cv' (cur.length + r.length) (iv (nl cur) ++ iv (nl r))) (hg : w.grownBy w' cv.ownBlock) (hv : cv'.ownBlock = cv.ownBlock ∨ cv'.ownBlock = some w.heap.size) : QSt w0 w' B rsv ov cv' vs avs rs ss (cur ++ r) :=
 ⟨h.below.grown hg h.base (own_low h.cur'), Nat.le_trans h.base hg.size, own_grown h.rsr hg (own_types h.rsr h.cur' (by decide)), fun i hi => own_grown (h.old i hi) hg (h.aptO i hi).ne, own_grown h.out hg (own_types h.out h.cur' (by decide)), h.alen,
  fun i hi => own_grown (h.done i hi) hg (h.aptD i hi).ne, by simpa [iv, nl] using h1, fun i hi => (h.aptO i hi).fresh hv (own_lt (h.old i hi)), fun i hi => (h.aptD i hi).fresh hv (own_lt (h.done i hi))⟩
theorem QSt.push {ov' : Value} {s : Sq} (h : QSt w0 w B rsv ov cv vs avs rs ss cur) (hs : s.at' = cur) (h1 : w'.ownsRow B 120 4 ov' (ss.length + 1) (sqV avs ss ++ [cv, .int .i64 s.level, .int .i64 s.sos, .int .i64 s.eos])) (hg : w.grownBy w' ov.ownBlock) : QSt w0 w' B rsv ov' (.slice none 0 0) vs (avs ++ [cv]) rs (ss ++ [s]) [] := by
 refine ⟨h.below.grown hg h.base (own_low h.out), Nat.le_trans h.base hg.size, own_grown h.rsr hg (own_types h.rsr h.out (by decide)), fun i hi => own_grown (h.old i hi) hg (own_types (h.old i hi) h.out (by decide)), ?_, by simp [h.alen], ?_, ⟨rfl, .inl ⟨rfl, rfl⟩⟩, fun _ _ k _ hk => (by cases hk), fun _ _ k _ hk => (by cases hk)⟩
 ·rw [sqV_snoc _ _ _ _ h.alen]; simpa using h1
 ·intro i hi
  simp only [List.length_append, List.length_cons, List.length_nil] at hi
  have ha := h.alen
  rcases Nat.lt_or_ge i ss.length with h' | h'
  ·simp only [List.getD_eq_getElem?_getD]
   rw [List.getElem?_append_left (by omega), List.getElem?_append_left h']
   have := own_grown (h.done i h') hg (own_types (h.done i h') h.out (by decide))
   simpa [List.getD_eq_getElem?_getD] using this
  ·have hie : i = ss.length := by omega
   subst hie
   simp only [List.getD_eq_getElem?_getD]
   rw [List.getElem?_append_right (by omega), List.getElem?_append_right (by omega), ha, Nat.sub_self]
   have := own_grown h.cur' hg (own_types h.cur' h.out (by decide))
   simpa [hs] using this
end
end Go.Proofs.YtkbinfhclaafhaaGreatDoor
namespace Go.Proofs.YtkbinfhclaafhaaGreatDoor
open Go.RowKit
structure XR (w0 w : World) (B s g2 g3 g4 len : Nat) (x : XS) (ls ks : List Int) (fs : List Bool) : Prop where
 st : ∃ v, StAt w B s v x.st x.isos x.embs x.valid
 lv : RowAt w B 3 g2 len (iv ls)
 kd : RowAt w B 3 g3 len (iv ks)
 lf : RowAt w B 4 g4 len (bv fs)
 be : Below B w0 w
theorem XR.call {w0 w w' : World} {B s g2 g3 g4 len : Nat} {x y : XS} {ls ks : List Int} {fs : List Bool} (h : XR w0 w B s g2 g3 g4 len x ls ks fs) (hs2 : g2 ≠ s) (hs3 : g3 ≠ s) (hs4 : g4 ≠ s) (hf : Fr B s w w') (hst : ∃ v, StAt w' B s v y.st y.isos y.embs y.valid) : XR w0 w' B s g2 g3 g4 len y ls ks fs :=
 ⟨hst, row_oth h.lv hf.oth (by decide) (by simp [Value.ownBlock, hs2]), row_oth h.kd hf.oth (by decide) (by simp [Value.ownBlock, hs3]), row_oth h.lf hf.oth (by decide) (by simp [Value.ownBlock, hs4]), h.be.trans hf.below⟩
theorem StAt.alloc {w : World} {B s : Nat} {v : Value} {st : List Ent} {a b c : Int} (h : StAt w B s v st a b c) (o : Obj) : StAt (w.alloc o) B s v st a b c := h.below ((Below.refl _ _).alloc (Nat.le_refl _) o)
theorem StAt.setOther {w : World} {B s : Nat} {v : Value} {st : List Ent} {a b c : Int} (h : StAt w B s v st a b c) {g : Nat} (k : Nat) (u : Value) (hg : g ≠ s) (ht : ∀ cu, w.heap[g]? ≠ some (.cells cu 181 (0, 0))) : StAt (w.setCell ⟨g, k, none⟩ u) B s v st a b c := by
 refine ⟨?_, row_set h.row ?_ k u, h.low⟩
 ·rw [Below.heap_setCell]; exact h.cell; exact fun e => hg e.symm
 ·rcases h.row.2 with ⟨rfl, _⟩ | ⟨g', cp, cur, rfl, _, hh, _⟩
  ·simp [Value.ownBlock]
  ·simp only [Value.ownBlock]
   intro e
   obtain rfl := Option.some.inj e
   exact ht _ hh
theorem RowAt.kind {w : World} {B g n : Nat} {e : TypeId} {xs : List Value} (h : RowAt w B e g n xs) (he : e ≠ 181) : ∀ cu, w.heap[g]? ≠ some (.cells cu 181 (0, 0)) := by
 intro cu hh
 rcases h.2 with ⟨h', _⟩ | ⟨g', cp, cur, h', _, hh', _⟩
 ·cases h'
 ·simp only [Value.slice.injEq, Option.some.injEq, Addr.mk.injEq, and_true, true_and] at h'
  obtain ⟨rfl, rfl⟩ := h'
  rw [hh] at hh'
  simp at hh'
  exact he hh'.2.symm
theorem XR.alloc {w0 w : World} {B s g2 g3 g4 len : Nat} {x : XS} {ls ks : List Int} {fs : List Bool} (h : XR w0 w B s g2 g3 g4 len x ls ks fs) (o : Obj) : XR w0 (w.alloc o) B s g2 g3 g4 len x ls ks fs := by
 obtain ⟨v, hst⟩ := h.st
 exact ⟨⟨v, hst.alloc o⟩, h.lv.alloc o, h.kd.alloc o, h.lf.alloc o, h.be.alloc (Nat.le_trans hst.low (Nat.le_of_lt hst.lt)) o⟩
theorem XR.setL {w0 w : World} {B s g2 g3 g4 len : Nat} {x : XS} {ls ks : List Int} {fs : List Bool} (h : XR w0 w B s g2 g3 g4 len x ls ks fs) (h2 : g2 ≠ s) (h3 : g3 ≠ g2) (h4 : g4 ≠ g2) (k : Nat) (a : Int) : XR w0 (w.setCell ⟨g2, k, none⟩ (.int .i64 a)) B s g2 g3 g4 len x (ls.set k a) ks fs := by
 obtain ⟨v, hst⟩ := h.st
 exact ⟨⟨v, hst.setOther k _ h2 (h.lv.kind (by decide))⟩, iv_set ls k a ▸ h.lv.set k _, h.kd.setOther g2 k _ h3, h.lf.setOther g2 k _ h4, h.be.setCell h.lv.ge.1 _⟩
theorem XR.setK {w0 w : World} {B s g2 g3 g4 len : Nat} {x : XS} {ls ks : List Int} {fs : List Bool} (h : XR w0 w B s g2 g3 g4 len x ls ks fs) (h2 : g3 ≠ s) (h3 : g2 ≠ g3) (h4 : g4 ≠ g3) (k : Nat) (a : Int) : XR w0 (w.setCell ⟨g3, k, none⟩ (.int .i64 a)) B s g2 g3 g4 len x ls (ks.set k a) fs := by
 obtain ⟨v, hst⟩ := h.st
 exact ⟨⟨v, hst.setOther k _ h2 (h.kd.kind (by decide))⟩, h.lv.setOther g3 k _ h3, iv_set ks k a ▸ h.kd.set k _, h.lf.setOther g3 k _ h4, h.be.setCell h.kd.ge.1 _⟩
theorem XR.setF {w0 w : World} {B s g2 g3 g4 len : Nat} {x : XS} {ls ks : List Int} {fs : List Bool} (h : XR w0 w B s g2 g3 g4 len x ls ks fs) (h2 : g4 ≠ s) (h3 : g2 ≠ g4) (h4 : g3 ≠ g4) (k : Nat) (a : Bool) : XR w0 (w.setCell ⟨g4, k, none⟩ (.bool a)) B s g2 g3 g4 len x ls ks (fs.set k a) := by
 obtain ⟨v, hst⟩ := h.st
 exact ⟨⟨v, hst.setOther k _ h2 (h.lf.kind (by decide))⟩, h.lv.setOther g4 k _ h3, h.kd.setOther g4 k _ h4, bv_set fs k a ▸ h.lf.set k _, h.be.setCell h.lf.ge.1 _⟩
structure Gs (B s g2 g3 g4 : Nat) : Prop where
 s : s = B + 1
 g2 : g2 = B + 2
 g3 : g3 = B + 3
 g4 : g4 = B + 4
def XRk (cs : List Int) (para : Int) (w0 w : World) (B len : Nat) (x : XS) (k : Nat) : Prop :=
 XR w0 w B (B + 1) (B + 2) (B + 3) (B + 4) len x (upto (xLevels cs para) 0 k) (upto (xKinds cs para) 0 k) (upto (xLeft cs) false k)
theorem xLevels_at {cs : List Int} {para : Int} {k : Nat} (hk : k < cs.length) : (xLevels cs para)[k]? = some (xTop cs para k).l := by simp [xLevels, hk]
theorem xKinds_at {cs : List Int} {para : Int} {k : Nat} (hk : k < cs.length) : (xKinds cs para)[k]? = some (kindOf (cs.getD k 0) (xTop cs para k)) := by simp [xKinds, hk]
theorem xLeft_at {cs : List Int} {k : Nat} (hk : k < cs.length) : (xLeft cs)[k]? = some (leftB (cs.getD k 0)) := by simp [xLeft, hk]
theorem XRk.stored {cs : List Int} {para : Int} {w0 w : World} {B s g2 g3 g4 len : Nat} {x : XS} {k : Nat} (h : XRk cs para w0 w B len x k) (hgs : Gs B s g2 g3 g4) (hk : k < cs.length) (e : Ent) (he : e = xTop cs para k) (o : Obj) (l c : Int) (f : Bool) (hl : l = e.l) (hc : c = kindOf (cs.getD k 0) e) (hf : f = leftB (cs.getD k 0)) :
  XRk cs para w0 ((((w.alloc o).setCell ⟨g2, k, none⟩ (.int .i64 l)).setCell ⟨g3, k, none⟩ (.int .i64 c)).setCell ⟨g4, k, none⟩ (.bool f)) B len x (k + 1) := by
 obtain ⟨rfl, rfl, rfl, rfl⟩ := hgs
 subst hl hc hf he
 unfold XRk
 rw [← upto_set _ _ _ _ (xLevels_at hk), ← upto_set _ _ _ _ (xKinds_at hk), ← upto_set _ _ _ _ (xLeft_at hk)]
 exact (((XR.alloc h o).setL (by omega) (by omega) (by omega) k _).setK (by omega) (by omega) (by omega) k _).setF (by omega) (by omega) (by omega) k _
theorem XRk.stored2 {cs : List Int} {para : Int} {w0 w : World} {B s g2 g3 g4 len : Nat} {x : XS} {k : Nat} (h : XRk cs para w0 w B len x k) (hgs : Gs B s g2 g3 g4) (hk : k < cs.length) (e : Ent) (he : e = xTop cs para k) (o : Obj) (l c c' : Int) (f : Bool) (hl : l = e.l) (hc : c = kindOf (cs.getD k 0) e) (hf : f = leftB (cs.getD k 0)) :
  XRk cs para w0 (((((w.alloc o).setCell ⟨g2, k, none⟩ (.int .i64 l)).setCell ⟨g3, k, none⟩ (.int .i64 c')).setCell ⟨g4, k, none⟩ (.bool f)).setCell ⟨g3, k, none⟩ (.int .i64 c)) B len x (k + 1) := by
 obtain ⟨rfl, rfl, rfl, rfl⟩ := hgs
 subst hl hc hf he
 unfold XRk
 rw [← upto_set _ _ _ _ (xLevels_at hk), ← upto_set _ _ _ _ (xKinds_at hk), ← upto_set _ _ _ _ (xLeft_at hk)]
 have := ((((XR.alloc h o).setL (by omega) (by omega) (by omega) k (xTop cs para k).l).setK (by omega) (by omega) (by omega) k c').setF (by omega) (by omega) (by omega) k (leftB (cs.getD k 0))).setK (by omega) (by omega) (by omega) k (kindOf (cs.getD k 0) (xTop cs para k))
 rw [List.set_set] at this
 exact this
theorem XRk.start (cs : List Int) (para : Int) (w : World) (len : Nat) (hl : cs.length = len) (hn : len ≤ 100000) :
  XRk cs para w (((((w.alloc (.cells #[.int .i64 para, .int .i64 (-1), .bool false] 181)).alloc (.cells #[.slice (some ⟨w.heap.size, 0, none⟩) 1 1, .int .i64 0, .int .i64 0, .int .i64 0] 184)).alloc
   (.cells (madeCells #[.int .i64 0] len) 3)).alloc (.cells (madeCells #[.int .i64 0] len) 3)).alloc (.cells (madeCells #[.bool false] len) 4)) w.heap.size len (xAt cs para 0) 0 := by
 have e1 : iv (upto (xLevels cs para) 0 0) = List.replicate len (.int .i64 0) := by rw [upto_zero]; simp [iv, xLevels, hl]
 have e2 : iv (upto (xKinds cs para) 0 0) = List.replicate len (.int .i64 0) := by rw [upto_zero]; simp [iv, xKinds, hl]
 have e3 : bv (upto (xLeft cs) false 0) = List.replicate len (.bool false) := by rw [upto_zero]; simp [bv, xLeft, hl]
 generalize hw1 : w.alloc (.cells #[.int .i64 para, .int .i64 (-1), .bool false] 181) = w1
 have z1 : w1.heap.size = w.heap.size + 1 := by rw [← hw1]; simp
 have b1 : w1.heap[w.heap.size]? = some (.cells #[.int .i64 para, .int .i64 (-1), .bool false] 181) := by rw [← hw1]; exact heap_alloc_new w _
 generalize hw2 : w1.alloc (.cells #[.slice (some ⟨w.heap.size, 0, none⟩) 1 1, .int .i64 0, .int .i64 0, .int .i64 0] 184) = w2
 have z2 : w2.heap.size = w.heap.size + 2 := by rw [← hw2]; simp [z1]
 have hst : StAt w2 w.heap.size (w.heap.size + 1) (.slice (some ⟨w.heap.size, 0, none⟩) 1 1) [⟨para, -1, false⟩] 0 0 0 := by
  refine ⟨by rw [← hw2, ← z1]; exact heap_alloc_new w1 _, ⟨rfl, .inr ⟨w.heap.size, 1, #[.int .i64 para, .int .i64 (-1), .bool false], rfl, Nat.le_refl _, ?_, Nat.le_refl _, by unfold maxLen; omega, rfl, rfl⟩⟩, by omega⟩
  rw [← hw2, heap_alloc_old w1 _ (by omega)]; exact b1
 have be2 : Below w.heap.size w w2 := by rw [← hw2, ← hw1]; exact ((Below.refl _ _).alloc (Nat.le_refl _) _).alloc (by simp) _
 have m3 := RowAt.made (w := w2) (B := w.heap.size) (n := len) (e := 3) (z := .int .i64 0) (by omega) (by omega)
 generalize hw3 : w2.alloc (.cells (madeCells #[.int .i64 0] len) 3) = w3 at m3 ⊢
 have z3 : w3.heap.size = w.heap.size + 3 := by rw [← hw3]; simp [z2]
 have m4 := RowAt.made (w := w3) (B := w.heap.size) (n := len) (e := 3) (z := .int .i64 0) (by omega) (by omega)
 generalize hw4 : w3.alloc (.cells (madeCells #[.int .i64 0] len) 3) = w4 at m4 ⊢
 have z4 : w4.heap.size = w.heap.size + 4 := by rw [← hw4]; simp [z3]
 have m5 := RowAt.made (w := w4) (B := w.heap.size) (n := len) (e := 4) (z := .bool false) (by omega) (by omega)
 rw [z2] at m3
 rw [z3] at m4
 rw [z4] at m5
 refine ⟨⟨.slice (some ⟨w.heap.size, 0, none⟩) 1 1, ?_⟩, ?_, ?_, ?_, ?_⟩
 ·rw [← hw4, ← hw3]; exact ((hst.alloc _).alloc _).alloc _
 ·rw [e1, ← hw4]; exact (m3.alloc _).alloc _
 ·rw [e2]; exact m4.alloc _
 ·rw [e3]; exact m5
 ·rw [← hw4, ← hw3]; exact ((be2.alloc (by omega) _).alloc (by rw [hw3]; omega) _).alloc (by rw [hw3, hw4]; omega) _
theorem XRk.below {cs : List Int} {para : Int} {w0 w w' : World} {B len : Nat} {x : XS} {k : Nat} (h : XRk cs para w0 w B len x k) (hb : Below w.heap.size w w') : XRk cs para w0 w' B len x k := by
 obtain ⟨v, hst⟩ := h.st
 exact XR.call h (by omega) (by omega) (by omega) (Fr.of_below (Nat.le_trans hst.low (Nat.le_of_lt hst.lt)) hb) ⟨v, hst.below hb⟩
theorem top_xr {cs : List Int} {para : Int} {w0 w : World} {B s len : Nat} {x : XS} {k : Nat} (hs : s = B + 1) (h : XRk cs para w0 w B len x k) (ho : XOk k x) :
  Calls Tryz.prog 117 #[.pointer (some ⟨s, 0, none⟩)] w fun ev w' => ev = .returned (.agg #[.int .i64 (topE x.st).l, .int .i64 (topE x.st).o, .bool (topE x.st).i]) ∧ XRk cs para w0 w' B len x k := by
 subst hs
 obtain ⟨v, hst⟩ := h.st
 have hlen := ho.len
 obtain ⟨st0, e, he⟩ : ∃ st0 e, x.st = st0 ++ [e] := ⟨x.st.dropLast, x.st.getLast ho.ne, (List.dropLast_concat_getLast ho.ne).symm⟩
 rw [he] at hst hlen
 rw [he, topE_snoc]
 simp only [List.length_append, List.length_cons, List.length_nil] at hlen
 refine (top_any w B (B + 1) v st0 e _ _ _ hst (by omega)).mono ?_
 rintro ev w' ⟨rfl, hb⟩
 exact ⟨rfl, h.below hb⟩
theorem end_xr {cs : List Int} {para : Int} {w0 w : World} {B s len : Nat} {x : XS} {k : Nat} (hs : s = B + 1) (h : XRk cs para w0 w B len x k) (ho : XOk k x) (hk : k ≤ 100000) :
  Calls Tryz.prog 116 #[.pointer (some ⟨s, 0, none⟩)] w fun ev w' => ev = .returned (.tuple #[]) ∧ XRk cs para w0 w' B len (endX x) k := by
 subst hs
 obtain ⟨v, hst⟩ := h.st
 refine (end_any w B (B + 1) v x hst (by have := ho.len; omega) (ho.big (by omega)) ho.exIso).mono ?_
 rintro ev w' ⟨rfl, hf, hv⟩
 exact ⟨rfl, XR.call h (by omega) (by omega) (by omega) hf hv⟩
theorem embed_xr {cs : List Int} {para : Int} {w0 w : World} {B s len : Nat} {x : XS} {k j : Nat} (c : Int) (hs : s = B + 1) (h : XRk cs para w0 w B len x j) (ho : XOk k x) (hk : k ≤ 100000) (hcc : c = 13 ∨ c = 14 ∨ c = 15 ∨ c = 16) :
  Calls Tryz.prog 118 #[.pointer (some ⟨s, 0, none⟩), .int .i64 c] w fun ev w' => ev = .returned (.tuple #[]) ∧ XRk cs para w0 w' B len (embedX x c) j := by
 subst hs
 obtain ⟨v, hst⟩ := h.st
 have ht := ho.top
 have hb := ho.big (by omega)
 refine (embed_any w B (B + 1) v x c hst ho.ne (by have := ho.len; omega) ht.2.1 (by omega) ⟨hb.2.2.1, hb.2.2.2.1⟩ hcc).mono ?_
 rintro ev w' ⟨rfl, hf, hv⟩
 exact ⟨rfl, XR.call h (by omega) (by omega) (by omega) hf hv⟩
theorem begin_xr {cs : List Int} {para : Int} {w0 w : World} {B s len : Nat} {x : XS} {k j : Nat} (odd : Int) (hs : s = B + 1) (h : XRk cs para w0 w B len x j) (ho : XOk k x) (hk : k ≤ 100000) :
  Calls Tryz.prog 119 #[.pointer (some ⟨s, 0, none⟩), .int .i64 odd] w fun ev w' => ev = .returned (.tuple #[]) ∧ XRk cs para w0 w' B len (beginX x odd) j := by
 subst hs
 obtain ⟨v, hst⟩ := h.st
 have ht := ho.top
 have hb := ho.big (by omega)
 refine (begin_any w B (B + 1) v x odd hst ho.ne (by have := ho.len; omega) ht.2.1 (by omega) ⟨hb.1, hb.2.1⟩ ⟨hb.2.2.2.2.1, hb.2.2.2.2.2⟩).mono ?_
 rintro ev w' ⟨rfl, hf, hv⟩
 exact ⟨rfl, XR.call h (by omega) (by omega) (by omega) hf hv⟩
theorem pop_xr {cs : List Int} {para : Int} {w0 w : World} {B s len : Nat} {x : XS} {k j : Nat} (hs : s = B + 1) (h : XRk cs para w0 w B len x j) (ho : XOk k x) (hk : k ≤ 100000) :
  Calls Tryz.prog 120 #[.pointer (some ⟨s, 0, none⟩)] w fun ev w' => ev = .returned (.tuple #[]) ∧ XRk cs para w0 w' B len (popX x) j := by
 subst hs
 obtain ⟨v, hst⟩ := h.st
 refine (pop_any w B (B + 1) v x hst ho.ne (by have := ho.len; omega) (ho.big (by omega))).mono ?_
 rintro ev w' ⟨rfl, hf, hv⟩
 exact ⟨rfl, XR.call h (by omega) (by omega) (by omega) hf hv⟩
theorem XRk.ready {cs : List Int} {para : Int} {w0 w : World} {B s g2 g3 g4 len : Nat} {x : XS} {k j : Nat} (h : XRk cs para w0 w B len x j) (hgs : Gs B s g2 g3 g4) (hl : cs.length = len) (hj : j ≤ len) (hk : k < len) (a0 a1 a2 : Value) :
  ((∃ u, (w.alloc (.cells #[a0, a1, a2] 181)).cell? ⟨g2, k, none⟩ = some (.int .i64 u)) ∧ (∃ u, (w.alloc (.cells #[a0, a1, a2] 181)).cell? ⟨g3, k, none⟩ = some (.int .i64 u)) ∧ (∃ u, (w.alloc (.cells #[a0, a1, a2] 181)).cell? ⟨g4, k, none⟩ = some (.bool u)) ∧
   (w.alloc (.cells #[a0, a1, a2] 181)).frozen? ⟨g2, k, none⟩ = false ∧ (w.alloc (.cells #[a0, a1, a2] 181)).frozen? ⟨g3, k, none⟩ = false ∧ (w.alloc (.cells #[a0, a1, a2] 181)).frozen? ⟨g4, k, none⟩ = false) ∧
  (w.alloc (.cells #[a0, a1, a2] 181)).cell? ⟨w.heap.size, 0, none⟩ = some a0 ∧ (w.alloc (.cells #[a0, a1, a2] 181)).cell? ⟨w.heap.size, 1, none⟩ = some a1 ∧
  (w.heap.size ≠ g2 ∧ w.heap.size ≠ g3 ∧ w.heap.size ≠ g4 ∧ g2 ≠ w.heap.size ∧ g3 ≠ w.heap.size ∧ g4 ≠ w.heap.size) ∧ (g2 ≠ g3 ∧ g2 ≠ g4 ∧ g3 ≠ g2 ∧ g3 ≠ g4 ∧ g4 ≠ g2 ∧ g4 ≠ g3) := by
 obtain ⟨rfl, rfl, rfl, rfl⟩ := hgs
 have hz := h.lf.ge.2
 have hnew := heap_alloc_new w (.cells #[a0, a1, a2] 181)
 have h' : XRk cs para w0 (w.alloc (.cells #[a0, a1, a2] 181)) B len x j := XR.alloc h _
 refine ⟨⟨?_, ?_, ?_, h'.lv.frozen k, h'.kd.frozen k, h'.lf.frozen k⟩, heap_cell hnew 0, heap_cell hnew 1, by omega, by omega⟩
 ·rw [h'.lv.cell k hk]
  refine ⟨(upto (xLevels cs para) 0 j)[k]'(by rw [upto_length _ _ _ (by simp [xLevels]; omega)]; simp [xLevels]; omega), by simp [iv]⟩
 ·rw [h'.kd.cell k hk]
  refine ⟨(upto (xKinds cs para) 0 j)[k]'(by rw [upto_length _ _ _ (by simp [xKinds]; omega)]; simp [xKinds]; omega), by simp [iv]⟩
 ·rw [h'.lf.cell k hk]
  refine ⟨(upto (xLeft cs) false j)[k]'(by rw [upto_length _ _ _ (by simp [xLeft]; omega)]; simp [xLeft]; omega), by simp [bv]⟩
end Go.Proofs.YtkbinfhclaafhaaGreatDoor
