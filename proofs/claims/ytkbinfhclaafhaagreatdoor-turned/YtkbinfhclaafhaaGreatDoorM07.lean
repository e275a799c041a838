import Derived.Test.YtkbinfhclaafhaaGreatDoorM05
import Derived.Test.YtkbinfhclaafhaaGreatDoorM06
import Derived.Test.YtkbinfhclaafhaaGreatDoorM04
namespace Go.Proofs.YtkbinfhclaafhaaGreatDoor
open Go.RowKit
theorem wpList_pushA {P : Program} (w : World) {ops : Array Oper} {rest : List Oper} {o : Oper} {a : Act} {Q : Exit → Act → World → Prop} (hgd : o.guard = none) (s x : Operand) (t : TypeId)
  (ho : o.op = .call { callee := .builtin .append, args := #[s, x], argTypes := #[t, t] })
  (base : Nat) (e : TypeId) (i : TypeInfo) (z : Value) (bytes : Nat) (ht : P.underlying t = some (.slice e)) (hi : P.info? e = some i) (hz : i.zero = some z)
  (hsize : i.size = 1) (hby : i.bytes = bytes) (hzs : z.cells.size = 1) (hb64 : bytes ≤ 64)
  (v : Value) (n : Nat) (xs : List Value) (hs : a.eval s = v) (hown : w.ownsRow base e 1 v n xs)
  (y : Value) (e' : TypeId) (k : Nat) (hx : a.eval x = .slice (some ⟨k, 0, none⟩) 1 1) (hk : k = w.heap.size) (h1 : y.oneCell' = true) (hn : n ≤ 1000000) (hbase : base ≤ w.heap.size)
  (h : ∀ v' w', w'.ownsRow base e 1 v' (n + 1) (xs ++ [y]) → w.grownBy w' v.ownBlock → (v'.ownBlock = v.ownBlock ∨ v'.ownBlock = some (w.heap.size + 1)) → wpList P ops Q rest (a.put o.dst v') w') : wpList P ops Q (o :: rest) a (w.alloc (.cells #[y] e')) := by
 subst hk
 refine wpList_append_own_at _ hgd s x t ho base e i z 1 bytes ht hi hz hsize hby hzs (by decide) v n xs hs (hown.alloc _) ⟨w.heap.size, 0, none⟩ 1 1 [y] hx rfl ?_ ?_ ?_ ?_ ?_ ?_
 ·intro j u hj
  match j, hj with
  | 0, hj => simp at hj; subst hj; simp [Addr.add]
 ·intro u hu; simp at hu; subst hu; exact h1
 ·unfold maxLen; omega
 ·have : (n + 1) * bytes ≤ 1000001 * 64 := Nat.mul_le_mul (by omega) hb64
  omega
 ·simp; omega
 ·intro v' w' h2 h3 _ h5
  refine h v' w' h2 ⟨h3.os, h3.tape, h3.output, ?_, fun k hk hne => ?_⟩ (by simpa using h5)
  ·have := h3.size; simp at this; omega
  ·rw [h3.block k (by simp; omega) hne]
   exact Below.heap_alloc w _ k hk
theorem grown_of_below {w w' : World} {r : Option Nat} (h : Below w.heap.size w w') : w.grownBy w' r := ⟨h.os, h.tape, h.output, h.size, fun k hk _ => h.block k hk⟩
theorem drew_grown {w : World} {r : Option Nat} : w.grownBy w.drew r := ⟨rfl, rfl, rfl, Nat.le_refl _, fun _ _ _ => rfl⟩
def Apt (a b : Option Nat) : Prop := ∀ k, a = some k → b = some k → False
theorem Apt.symm {a b : Option Nat} (h : Apt a b) : Apt b a := fun k h1 h2 => h k h2 h1
theorem Apt.ne {a b : Option Nat} (h : Apt a b) : a = none ∨ a ≠ b := by
 cases a with
 | none => exact .inl rfl
 | some k => exact .inr fun e => h k rfl e.symm
theorem own_lt {w : World} {B : Nat} {e : TypeId} {z n : Nat} {v : Value} {xs : List Value} (h : w.ownsRow B e z v n xs) : ∀ k, v.ownBlock = some k → k < w.heap.size := fun k hk => (h.lt k hk).2
theorem Apt.push {w : World} {a a' b : Option Nat} (h : Apt a b) (h1 : a' = a ∨ a' = some (w.heap.size + 1)) (hb : ∀ k, b = some k → k < w.heap.size) : Apt a' b := by
 intro k h2 h3
 rcases h1 with rfl | h1
 ·exact h k h2 h3
 ·rw [h1] at h2
  have := Option.some.inj h2
  have := hb k h3
  omega
structure Tri (w0 w : World) (B : Nat) (tv ov rv : Value) (t o r : List Int) : Prop where
 below : Below B w0 w
 base : B ≤ w.heap.size
 ht : w.ownsRow B 3 1 tv t.length (iv t)
 ho : w.ownsRow B 3 1 ov o.length (iv o)
 hr : w.ownsRow B 3 1 rv r.length (iv r)
 to' : Apt tv.ownBlock ov.ownBlock
 tr : Apt tv.ownBlock rv.ownBlock
 or' : Apt ov.ownBlock rv.ownBlock
theorem Tri.start (w0 w : World) (B : Nat) (hb : Below B w0 w) (hB : B ≤ w.heap.size) : Tri w0 w B (.slice none 0 0) (.slice none 0 0) (.slice none 0 0) [] [] [] :=
 ⟨hb, hB, ⟨rfl, .inl ⟨rfl, rfl⟩⟩, ⟨rfl, .inl ⟨rfl, rfl⟩⟩, ⟨rfl, .inl ⟨rfl, rfl⟩⟩, fun k h => (by cases h), fun k h => (by cases h), fun k h => (by cases h)⟩
theorem Tri.pushT {w0 w w' : World} {B : Nat} {tv ov rv v' : Value} {t o r : List Int} {a : Int} (h : Tri w0 w B tv ov rv t o r) (h1 : w'.ownsRow B 3 1 v' (t.length + 1) (iv t ++ [.int .i64 a])) (hg : w.grownBy w' tv.ownBlock) (hv : v'.ownBlock = tv.ownBlock ∨ v'.ownBlock = some (w.heap.size + 1)) : Tri w0 w' B v' ov rv (t ++ [a]) o r :=
 ⟨h.below.grown hg h.base (own_low h.ht), Nat.le_trans h.base hg.size, by rw [iv_snoc] at h1; simpa using h1, own_grown h.ho hg h.to'.symm.ne, own_grown h.hr hg h.tr.symm.ne, h.to'.push hv (own_lt h.ho), h.tr.push hv (own_lt h.hr), h.or'⟩
theorem Tri.pushO {w0 w w' : World} {B : Nat} {tv ov rv v' : Value} {t o r : List Int} {a : Int} (h : Tri w0 w B tv ov rv t o r) (h1 : w'.ownsRow B 3 1 v' (o.length + 1) (iv o ++ [.int .i64 a])) (hg : w.grownBy w' ov.ownBlock) (hv : v'.ownBlock = ov.ownBlock ∨ v'.ownBlock = some (w.heap.size + 1)) : Tri w0 w' B tv v' rv t (o ++ [a]) r :=
 ⟨h.below.grown hg h.base (own_low h.ho), Nat.le_trans h.base hg.size, own_grown h.ht hg h.to'.ne, by rw [iv_snoc] at h1; simpa using h1, own_grown h.hr hg h.or'.symm.ne, (h.to'.symm.push hv (own_lt h.ht)).symm, h.tr, h.or'.push hv (own_lt h.hr)⟩
theorem Tri.pushR {w0 w w' : World} {B : Nat} {tv ov rv v' : Value} {t o r : List Int} {a : Int} (h : Tri w0 w B tv ov rv t o r) (h1 : w'.ownsRow B 3 1 v' (r.length + 1) (iv r ++ [.int .i64 a])) (hg : w.grownBy w' rv.ownBlock) (hv : v'.ownBlock = rv.ownBlock ∨ v'.ownBlock = some (w.heap.size + 1)) : Tri w0 w' B tv ov v' t o (r ++ [a]) :=
 ⟨h.below.grown hg h.base (own_low h.hr), Nat.le_trans h.base hg.size, own_grown h.ht hg h.tr.ne, own_grown h.ho hg h.or'.ne, by rw [iv_snoc] at h1; simpa using h1, h.to', (h.tr.symm.push hv (own_lt h.ht)).symm, (h.or'.symm.push hv (own_lt h.ho)).symm⟩
end Go.Proofs.YtkbinfhclaafhaaGreatDoor
namespace Go.Proofs.YtkbinfhclaafhaaGreatDoor
open Go.RowKit
theorem Tryz.infoSl : (Tryz.prog.info? 31).map (fun i => (i.zero, i.size, i.bytes)) = some (some (.slice none 0 0), 1, 24) := by kernel_rfl
structure RSt (w0 w : World) (B : Nat) (ov rv : Value) (vs : List Value) (x : List (List Nat) × List Nat) : Prop where
 below : Below B w0 w
 base : B ≤ w.heap.size
 out : w.ownsRow B 31 1 ov x.1.length vs
 cur : w.ownsRow B 3 1 rv x.2.length (iv (nl x.2))
 old : ∀ i, i < x.1.length → w.ownsRow B 3 1 (vs.getD i .nilFunc) (x.1.getD i []).length (iv (nl (x.1.getD i [])))
 apt : ∀ i, i < x.1.length → Apt (vs.getD i .nilFunc).ownBlock rv.ownBlock
theorem RSt.start (w : World) : RSt w w w.heap.size (.slice none 0 0) (.slice none 0 0) [] ([], []) :=
 ⟨Below.refl _ _, Nat.le_refl _, ⟨rfl, .inl ⟨rfl, rfl⟩⟩, ⟨rfl, .inl ⟨rfl, rfl⟩⟩, fun i h => by simp at h, fun i h => by simp at h⟩
theorem RSt.len {w0 w : World} {B : Nat} {ov rv : Value} {vs : List Value} {x : List (List Nat) × List Nat} (h : RSt w0 w B ov rv vs x) : vs.length = x.1.length := by have := h.out.1; omega
theorem RSt.grow {w0 w w' : World} {B : Nat} {ov rv rv' : Value} {vs : List Value} {x : List (List Nat) × List Nat} {p : Nat} (h : RSt w0 w B ov rv vs x) (h1 : w'.ownsRow B 3 1 rv' (x.2.length + 1) (iv (nl x.2) ++ [.int .i64 (p : Nat)])) (hg : w.grownBy w' rv.ownBlock) (hv : rv'.ownBlock = rv.ownBlock ∨ rv'.ownBlock = some (w.heap.size + 1)) : RSt w0 w' B ov rv' vs (x.1, x.2 ++ [p]) :=
 ⟨h.below.grown hg h.base (own_low h.cur), Nat.le_trans h.base hg.size, own_grown h.out hg (own_types h.out h.cur (by decide)), by rw [iv_snoc, nl_snoc] at h1; simpa using h1,
  fun i hi => own_grown (h.old i hi) hg (h.apt i hi).ne, fun i hi => ((h.apt i hi).symm.push hv (own_lt (h.old i hi))).symm⟩
theorem RSt.shift {w0 w w' : World} {B : Nat} {ov ov' rv : Value} {vs : List Value} {x : List (List Nat) × List Nat} (h : RSt w0 w B ov rv vs x) (h1 : w'.ownsRow B 31 1 ov' (x.1.length + 1) (vs ++ [rv])) (hg : w.grownBy w' ov.ownBlock) : RSt w0 w' B ov' (.slice none 0 0) (vs ++ [rv]) (x.1 ++ [x.2], []) := by
 have hl := h.len
 refine ⟨h.below.grown hg h.base (own_low h.out), Nat.le_trans h.base hg.size, by simpa using h1, ⟨rfl, .inl ⟨rfl, rfl⟩⟩, ?_, fun i _ k _ hk => by cases hk⟩
 intro i hi
 simp only [List.length_append, List.length_cons, List.length_nil] at hi
 rcases Nat.lt_or_ge i x.1.length with h' | h'
 ·simp only [List.getD_eq_getElem?_getD]
  rw [List.getElem?_append_left (by omega), List.getElem?_append_left h']
  have := own_grown (h.old i h') hg (own_types (h.old i h') h.out (by decide))
  simpa [List.getD_eq_getElem?_getD] using this
 ·have hie : i = x.1.length := by omega
  subst hie
  simp only [List.getD_eq_getElem?_getD]
  rw [List.getElem?_append_right (by omega), List.getElem?_append_right (by omega), hl, Nat.sub_self]
  have := own_grown h.cur hg (own_types h.cur h.out (by decide))
  simpa using this
theorem runsF_step {lv : List Int} {lf : List Bool} {n k : Nat} {x : List (List Nat) × List Nat} (hk : k < n) : runsF lv lf (n - k) k x = runsF lv lf (n - (k + 1)) (k + 1) (runStep lv lf k x) := by
 rw [show n - k = (n - (k + 1)) + 1 by omega, runsF]
theorem drewN_grown {w : World} {r : Option Nat} {n : Nat} : w.grownBy (w.drewN n) r := ⟨rfl, rfl, rfl, Nat.le_refl _, fun _ _ _ => rfl⟩
def BoolsAt (w : World) (b off : Nat) (l : List Bool) : Prop := ∀ i, i < l.length → w.cell? ⟨b, off + i, none⟩ = some (.bool (l.getD i false))
theorem BoolsAt.stay {w w' : World} {B b off : Nat} {l : List Bool} (h : BoolsAt w b off l) (hb : Below B w w') (hlt : b < B) : BoolsAt w' b off l := fun i hi => by rw [hb.cell (p := ⟨b, off + i, none⟩) hlt]; exact h i hi
set_option maxRecDepth 100000 in
set_option maxHeartbeats 8000000 in
theorem runs_row (lv : List Int) (lf : List Bool) (n gl ol cl gf of' cf : Nat) (w : World) (hl : lv.length = n) (hf : lf.length = n) (hn : n ≤ 100000) (hli : IntsAt w gl ol lv) (hfi : BoolsAt w gf of' lf) (hgl : gl < w.heap.size) (hgf : gf < w.heap.size) :
  Calls Tryz.prog 121 #[.slice (some ⟨gl, ol, none⟩) n cl, .slice (some ⟨gf, of', none⟩) n cf] w fun ev w' => ∃ (v : Value) (vs : List Value), ev = .returned v ∧ Below w.heap.size w w' ∧ w'.ownsRow w.heap.size 31 1 v (runsL lv lf).length vs ∧ ∀ i, i < (runsL lv lf).length → w'.ownsRow w.heap.size 3 1 (vs.getD i .nilFunc) ((runsL lv lf).getD i []).length (iv (nl ((runsL lv lf).getD i []))) := by
 obtain ⟨iI, hiI, hzI0, hzI1, hzI2⟩ := info_parts Tryz.infoI8
 obtain ⟨iS, hiS, hzS0, hzS1, hzS2⟩ := info_parts Tryz.infoSl
 obtain ⟨R, hR⟩ : ∃ R, R = runsL lv lf := ⟨_, rfl⟩
 rw [← hR]
 have HR : Hid (R = runsF lv lf (n - 0) 0 ([], [])) := by rw [hR, runsL, hl]; rfl
 have HLI : Hid (IntsAt w gl ol lv) := hli
 have HFI : Hid (BoolsAt w gf of' lf) := hfi
 have HL : Hid (lv.length = n ∧ lf.length = n ∧ gl < w.heap.size ∧ gf < w.heap.size) := ⟨hl, hf, hgl, hgf⟩
 clear hR hl hf hli hfi hgl hgf
 go_enter Tryz.func121, Tryz.ntmps121
 go_wp2
 go_loopg [5, 6, 7] n (fun gh ov rv iv' wr => ∃ (k : Nat) (vs : List Value) (x : List (List Nat) × List Nat), k ≤ n ∧ gh = n - k ∧ iv' = .int .i64 k ∧ RSt w wr w.heap.size ov rv vs x ∧ RunOk lv lf k x ∧ R = runsF lv lf (n - k) k x)
 case atStart => exact ⟨0, [], ([], []), by omega, rfl, rfl, RSt.start w, RunOk.start _ _, HR.out⟩
 case round =>
  clear HR
  obtain ⟨k, vs, x, hk, rfl, rfl, hS, hok, hE⟩ := hrel
  obtain ⟨oa, oc, rfl⟩ := own_form hS.out
  obtain ⟨ra, rc, rfl⟩ := own_form hS.cur
  have HS : Hid (RSt w wr w.heap.size _ _ vs x) := hS
  have HOk : Hid (RunOk lv lf (k + 1) (runStep lv lf k x)) := hok.step
  have HE : Hid (k < n → R = runsF lv lf (n - (k + 1)) (k + 1) (runStep lv lf k x)) := fun h => by rw [hE]; exact runsF_step h
  by_cases hlt : k < n
  ·have hcf := HFI.out.stay hS.below HL.out.2.2.2 k (by rw [HL.out.2.1]; exact hlt)
   have hcl := HLI.out.stay hS.below HL.out.2.2.1 k (by rw [HL.out.1]; exact hlt)
   have HE1 : Hid (R = runsF lv lf (n - (k + 1)) (k + 1) (runStep lv lf k x)) := HE.out hlt
   have hlens : x.1.flatten.length + x.2.length ≤ k := by
    have := congrArg List.length hok.flat
    rw [List.length_append] at this
    have h2 := List.length_filter_le (isL lf) (List.range k)
    rw [List.length_range] at h2
    omega
   have hx1 : x.1.length ≤ k := by
    have h3 : ∀ l : List (List Nat), (∀ r ∈ l, r ≠ []) → l.length ≤ l.flatten.length := by
     intro l
     induction l with
     | nil => intro _; simp
     | cons a l ih =>
      intro hl
      have := ih (fun r hr => hl r (by simp [hr]))
      have := List.length_pos_iff.2 (hl a (by simp))
      simp only [List.length_cons, List.flatten_cons, List.length_append]
      omega
    have := h3 x.1 hok.ne
    omega
   have hx2 : x.2.length ≤ k := by omega
   have hhd : x.2 ≠ [] → x.2.headD 0 < k := by
    intro hne
    have hm : x.2.headD 0 ∈ x.1.flatten ++ x.2 := List.mem_append.2 (.inr (by cases hx : x.2 with | nil => exact absurd hx hne | cons a l => simp))
    rw [hok.flat] at hm
    exact List.mem_range.1 (List.mem_filter.1 hm).1
   clear hlens
   have hst : runStep lv lf k x = if lf.getD k false = false then x else if x.2 ≠ [] ∧ lv.getD (x.2.headD 0) 0 ≠ lv.getD k 0 then (x.1 ++ [x.2], [k]) else (x.1, x.2 ++ [k]) := rfl
   cases hb : lf.getD k false
   ·rw [hb] at hcf
    rw [hb, if_pos rfl] at hst
    rw [hst] at HE1 HOk
    clear hb hst hS hok hE HE hhd hcl
    go_wp2
    go_roundg (n - (k + 1))
    case measure => omega
    case rel => exact ⟨k + 1, vs, x, by omega, rfl, by simp, HS.out, HOk.out, HE1.out⟩
   ·rw [hb] at hcf
    rw [hb, if_neg (by decide)] at hst
    clear hb
    by_cases hne : x.2 = []
    ·rw [if_neg (fun h => h.1 hne)] at hst
     rw [hst] at HE1 HOk
     have hl0 : x.2.length = 0 := by rw [hne]; rfl
     have hrow := hS.cur
     have hbz := hS.base
     rw [hl0] at hrow ⊢
     clear hst hok hE HE hhd hcl hS
     have HSg := HS
     rw [hl0] at HSg
     clear hl0 HS
     go_wp2
     go_quiet (fail)
     go_wp2_with (at_builtin; refine wpList_pushA _ rfl _ _ 31 rfl w.heap.size 3 iI (.int .i64 0) 8 Tryz.underlying31 hiI hzI0 hzI1 hzI2 rfl (by decide) _ _ _ rfl hrow _ _ _ rfl rfl rfl (by omega) hbz ?_)
     intro v' w5 hown5 hg5 hv5
     have hg5' := (drewN_grown (w := wr) (r := (Value.slice ra 0 rc).ownBlock)).trans hg5
     have HS5 : Hid (RSt w w5 w.heap.size _ v' vs (x.1, x.2 ++ [k])) := HSg.out.grow (by rw [hne]; exact hown5) hg5' hv5
     clear hown5 hg5 hv5 hrow hg5'
     go_wp2
     go_roundg (n - (k + 1))
     case measure => omega
     case rel => exact ⟨k + 1, vs, _, by omega, rfl, by simp, HS5.out, HOk.out, HE1.out⟩
    ·have hl1 : 0 < x.2.length := List.length_pos_iff.2 hne
     obtain ⟨g, cap, hv, hcap, hgw, _⟩ := own_some hS.cur hl1
     obtain ⟨hv1, hv2⟩ : ra = some ⟨g, 0, none⟩ ∧ rc = cap := by simpa using hv
     clear hv
     subst hv1
     subst hv2
     have hc0 := own_icell hS.cur 0 (by rw [nl_length]; exact hl1)
     rw [nl_getD _ _ hl1] at hc0
     have hh0 : x.2.getD 0 0 = x.2.headD 0 := by cases x.2 <;> rfl
     rw [hh0] at hc0
     have hlt0 := hhd hne
     have hcl0 := HLI.out.stay hS.below HL.out.2.2.1 (x.2.headD 0) (by rw [HL.out.1]; omega)
     generalize x.2.headD 0 = p0 at *
     generalize lv.getD p0 0 = l0 at *
     generalize lv.getD k 0 = l1 at *
     have hp0n : p0 < n := by omega
     have hgt : ((0 : Int) < (x.2.length : Int)) := by omega
     have hrow := hS.cur
     have hrowO := hS.out
     have hbz := hS.base
     by_cases hll : l0 = l1
     ·rw [if_neg (fun h => h.2 hll)] at hst
      rw [hst] at HE1 HOk
      have hll' : (l0 != l1) = false := by simpa using hll
      clear hst hok hE HE hhd hS hh0 hll hrowO
      go_wp2
      go_quiet (fail)
      go_wp2_with (at_builtin; refine wpList_pushA _ rfl _ _ 31 rfl w.heap.size 3 iI (.int .i64 0) 8 Tryz.underlying31 hiI hzI0 hzI1 hzI2 rfl (by decide) _ _ _ rfl hrow _ _ _ rfl rfl rfl (by omega) hbz ?_)
      intro v' w5 hown5 hg5 hv5
      have hg5' := (drewN_grown (w := wr) (r := (Value.slice (some ⟨g, 0, none⟩) x.2.length rc).ownBlock)).trans hg5
      have HS5 : Hid (RSt w w5 w.heap.size _ v' vs (x.1, x.2 ++ [k])) := HS.out.grow hown5 hg5' hv5
      clear hown5 hg5 hv5 hrow hg5'
      go_wp2
      go_roundg (n - (k + 1))
      case measure => omega
      case rel => exact ⟨k + 1, vs, _, by omega, rfl, by simp, HS5.out, HOk.out, HE1.out⟩
     ·rw [if_pos ⟨hne, hll⟩] at hst
      rw [hst] at HE1 HOk
      have hll' : (l0 != l1) = true := by simpa using hll
      clear hst hok hE HE hhd hS hh0 hll hrow
      go_wp2
      go_quiet (fail)
      go_wp2_with (at_builtin; refine wpList_pushA _ rfl _ _ 127 rfl w.heap.size 31 iS (.slice none 0 0) 24 Tryz.underlying127 hiS hzS0 hzS1 hzS2 rfl (by decide) _ _ _ rfl hrowO _ _ _ rfl rfl rfl (by omega) hbz ?_)
      intro v' w5 hown5 hg5 hv5
      obtain ⟨oa', oc', rfl⟩ := own_form hown5
      have hg5' := (drewN_grown (w := wr) (r := (Value.slice oa x.1.length oc).ownBlock)).trans hg5
      have hS5 := HS.out.shift hown5 hg5'
      have HS5 : Hid (RSt w w5 w.heap.size (.slice oa' (x.1.length + 1) oc') (.slice none 0 0) _ (x.1 ++ [x.2], [])) := hS5
      have hrow5 := hS5.cur
      have hbz5 := hS5.base
      clear hown5 hg5 hv5 hrowO hg5' hS5
      go_wp2_with (at_builtin; refine wpList_pushA _ rfl _ _ 31 rfl w.heap.size 3 iI (.int .i64 0) 8 Tryz.underlying31 hiI hzI0 hzI1 hzI2 rfl (by decide) _ _ _ rfl hrow5 _ _ _ rfl rfl rfl (by simp) hbz5 ?_)
      intro v6 w6 hown6 hg6 hv6
      have HS6 : Hid (RSt w w6 w.heap.size _ v6 _ (x.1 ++ [x.2], [] ++ [k])) := HS5.out.grow hown6 hg6 hv6
      clear hown6 hg6 hv6 hrow5
      go_wp2
      go_roundg (n - (k + 1))
      case measure => omega
      case rel => exact ⟨k + 1, _, _, by omega, rfl, by simp, HS6.out, HOk.out, HE1.out⟩
  ·have hkn : k = n := by omega
   have HE1 : Hid (R = runEnd x) := by
    show _ = _
    rw [hE, hkn, Nat.sub_self]; rfl
   by_cases hne : x.2 = []
   ·have HE2 : Hid (R = x.1) := by
     show _ = _
     rw [HE1.out, runEnd, if_pos hne]
    have hl0 : x.2.length = 0 := by rw [hne]; rfl
    rw [hl0]
    clear hS hok hE HE HOk hl0 HE1 hkn
    go_wp2
    refine bodyPost_ret (v := .slice oa x.1.length oc) (by simp [results, Tryz.results121, go_sem]) rfl ⟨_, vs, rfl, HS.out.below, ?_, ?_⟩
    ·rw [HE2.out]; exact HS.out.out
    ·rw [HE2.out]; exact HS.out.old
   ·have hl1 : 0 < x.2.length := List.length_pos_iff.2 hne
    have hgt : ((0 : Int) < (x.2.length : Int)) := by omega
    have HE2 : Hid (R = x.1 ++ [x.2]) := by
     show _ = _
     rw [HE1.out, runEnd, if_neg hne]
    have hx1 : x.1.length ≤ 100000 := by
     have := congrArg List.length hok.flat
     rw [List.length_append] at this
     have h2 := List.length_filter_le (isL lf) (List.range k)
     rw [List.length_range] at h2
     have h3 : ∀ l : List (List Nat), (∀ r ∈ l, r ≠ []) → l.length ≤ l.flatten.length := by
      intro l
      induction l with
      | nil => intro _; simp
      | cons a l ih =>
       intro hl
       have := ih (fun r hr => hl r (by simp [hr]))
       have := List.length_pos_iff.2 (hl a (by simp))
       simp only [List.length_cons, List.flatten_cons, List.length_append]
       omega
     have := h3 x.1 hok.ne
     omega
    have hrowO := hS.out
    have hbz := hS.base
    clear hS hok hE HE HOk HE1 hkn
    go_wp2_with (at_builtin; refine wpList_pushA _ rfl _ _ 127 rfl w.heap.size 31 iS (.slice none 0 0) 24 Tryz.underlying127 hiS hzS0 hzS1 hzS2 rfl (by decide) _ _ _ rfl hrowO _ _ _ rfl rfl rfl (by omega) hbz ?_)
    intro v' w5 hown5 hg5 hv5
    obtain ⟨oa', oc', rfl⟩ := own_form hown5
    have HS5 : Hid (RSt w w5 w.heap.size (.slice oa' (x.1.length + 1) oc') (.slice none 0 0) _ (x.1 ++ [x.2], [])) := HS.out.shift hown5 hg5
    clear hown5 hg5 hv5 hrowO
    go_wp2
    refine bodyPost_ret (v := .slice oa' (x.1.length + 1) oc') (by simp [results, Tryz.results121, go_sem]) rfl ⟨_, vs ++ [.slice ra x.2.length rc], rfl, HS5.out.below, ?_, ?_⟩
    ·rw [HE2.out]; exact HS5.out.out
    ·rw [HE2.out]; exact HS5.out.old
end Go.Proofs.YtkbinfhclaafhaaGreatDoor
namespace Go.Proofs.YtkbinfhclaafhaaGreatDoor
theorem mt_21 {cs : List Int} {i : Nat} (hm : mt cs i < cs.length) (_hi : i ≤ cs.length) : cs.getD (mt cs i) 0 = 21 := by
 have key : ∀ (l : List Int) (n : Int) (d : Nat), mtL l n = some d → l.getD d 0 = 21 := by
  intro l
  induction l with
  | nil => intro n d h; cases h
  | cons c r ih =>
   intro n d h
   rw [mtL] at h
   by_cases hc : c = 21
   ·rw [if_pos hc] at h
    by_cases h0 : n - 1 = 0
    ·rw [if_pos h0] at h
     obtain rfl := Option.some.inj h
     simpa using hc
    ·rw [if_neg h0] at h
     cases hr : mtL r (n - 1) with
     | none => rw [hr] at h; cases h
     | some d' => rw [hr] at h; obtain rfl := Option.some.inj h; simpa using ih _ _ hr
   ·rw [if_neg hc] at h
    cases hr : mtL r (if isoB c = true then n + 1 else n) with
    | none => rw [hr] at h; cases h
    | some d' => rw [hr] at h; obtain rfl := Option.some.inj h; simpa using ih _ _ hr
 unfold mt at hm ⊢
 cases hd : mtL (cs.drop i) 0 with
 | none => rw [hd] at hm; simp at hm
 | some d =>
  have := key _ _ _ hd
  simp only
  rw [List.getD_eq_getElem?_getD, List.getElem?_drop] at this
  rw [List.getD_eq_getElem?_getD]; exact this
theorem mt_gt' {cs : List Int} {k : Nat} (h : k < cs.length) (hi : isoB (cs.getD k 0) = true) : k < mt cs k := by
 have hs := MtTo.start cs k (by omega)
 have hc : cs.getD k 0 ≠ 21 := by intro e; rw [e, isoB_pdi] at hi; cases hi
 have h1 := hs.plain h hc
 have : mt cs k = cs.length ∨ ∃ d, mtL (cs.drop (k + 1)) (if isoB (cs.getD k 0) = true then (0 : Int) + 1 else 0) = some d ∧ mt cs k = k + (d + (k + 1 - k)) := by
  unfold mt
  rw [h1.2.2]
  cases hm : mtL (cs.drop (k + 1)) (if isoB (cs.getD k 0) = true then (0 : Int) + 1 else 0) with
  | none => exact .inl rfl
  | some d => exact .inr ⟨d, rfl, rfl⟩
 rcases this with h' | ⟨d, _, h'⟩ <;> omega
theorem mt_inj {cs : List Int} {i j : Nat} (hi : i < cs.length) (hj : j < cs.length) (h1 : isoB (cs.getD i 0) = true) (h2 : isoB (cs.getD j 0) = true) (he : mt cs i = mt cs j) (hm : mt cs i < cs.length) : i = j := by
 have key : ∀ i j, i < cs.length → j < cs.length → isoB (cs.getD i 0) = true → isoB (cs.getD j 0) = true → mt cs i = mt cs j → mt cs i < cs.length → ¬ i < j := by
  intro i j hi hj h1 h2 he hm hlt
  obtain ⟨d, hd, hlt'⟩ := mt_nested hi h1 hm hlt (by rw [he]; exact mt_gt' hj h2) h2
  have : mt cs j = j + d := by unfold mt; rw [hd]
  omega
 have a := key i j hi hj h1 h2 he hm
 have b := key j i hj hi h2 h1 he.symm (by omega)
 omega
theorem nextK_some {rs : List (List Nat)} {m : Nat} : ∀ n k, nextK rs m n = some k → k < n ∧ (rs.getD k []).headD 0 = m
 | 0, k, h => by cases h
 | n + 1, k, h => by
  rw [nextK] at h
  split at h
  ·rename_i hh
   obtain rfl := Option.some.inj h
   exact ⟨Nat.lt_succ_self _, hh⟩
  ·have := nextK_some n k h
   exact ⟨by omega, this.2⟩
theorem nextK_none {rs : List (List Nat)} {m : Nat} : ∀ n, nextK rs m n = none → ∀ k, k < n → (rs.getD k []).headD 0 ≠ m
 | 0, _, k, hk => by omega
 | n + 1, h, k, hk => by
  rw [nextK] at h
  split at h
  ·cases h
  ·rename_i hh
   rcases Nat.lt_or_ge k n with h' | h'
   ·exact nextK_none n h k h'
   ·obtain rfl : k = n := by omega
    exact hh
structure RunsOk (n : Nat) (rs : List (List Nat)) : Prop where
 ne : ∀ r ∈ rs, r ≠ []
 lt : ∀ r ∈ rs, ∀ p ∈ r, p < n
 nod : rs.flatten.Nodup
def nx (cs : List Int) (rs : List (List Nat)) (i : Nat) : Option Nat := if i < rs.length then nextRun cs rs ((rs.getD i []).getLastD 0) else none
theorem getD_mem {α : Type} {l : List α} {i : Nat} {d : α} (h : i < l.length) : l.getD i d ∈ l := by
 rw [List.getD_eq_getElem?_getD, List.getElem?_eq_getElem h]; exact List.getElem_mem h
theorem last_mem {r : List Nat} (h : r ≠ []) : r.getLastD 0 ∈ r := by
 rw [List.getLastD_eq_getLast?, List.getLast?_eq_some_getLast h]; exact List.getLast_mem h
theorem head_mem {r : List Nat} (h : r ≠ []) : r.headD 0 ∈ r := by
 cases r with
 | nil => exact absurd rfl h
 | cons a l => simp
theorem flat_one : ∀ {rs : List (List Nat)}, rs.flatten.Nodup → ∀ {i j p : Nat}, p ∈ rs.getD i [] → p ∈ rs.getD j [] → i = j
 | [], _, i, j, p, h, _ => by simp at h
 | r :: rs, hn, i, j, p, hi, hj => by
  rw [List.flatten_cons, List.nodup_append] at hn
  have up : ∀ k, p ∈ rs.getD k [] → p ∈ rs.flatten := by
   intro k hk
   rcases Nat.lt_or_ge k rs.length with h | h
   ·exact List.mem_flatten.2 ⟨_, getD_mem h, hk⟩
   ·rw [List.getD_eq_getElem?_getD, List.getElem?_eq_none h] at hk; cases hk
  cases i with
  | zero =>
   cases j with
   | zero => rfl
   | succ j => exact absurd rfl (hn.2.2 p (by simpa using hi) p (up j (by simpa using hj)))
  | succ i =>
   cases j with
   | zero => exact absurd rfl (hn.2.2 p (by simpa using hj) p (up i (by simpa using hi)))
   | succ j => rw [flat_one hn.2.1 (i := i) (j := j) (p := p) (by simpa using hi) (by simpa using hj)]
theorem nx_facts {cs : List Int} {rs : List (List Nat)} (h : RunsOk cs.length rs) {i k : Nat} (hn : nx cs rs i = some k) :
  i < rs.length ∧ k < rs.length ∧ isoB (cs.getD ((rs.getD i []).getLastD 0) 0) = true ∧ (rs.getD k []).headD 0 = mt cs ((rs.getD i []).getLastD 0) ∧ (rs.getD i []).getLastD 0 < cs.length ∧ mt cs ((rs.getD i []).getLastD 0) < cs.length := by
 unfold nx at hn
 split at hn
 ·rename_i hi
  unfold nextRun at hn
  split at hn
  ·rename_i hiso
   obtain ⟨hk, hh⟩ := nextK_some _ _ hn
   have m1 : rs.getD i [] ∈ rs := getD_mem hi
   have m2 : rs.getD k [] ∈ rs := getD_mem hk
   refine ⟨hi, hk, hiso, hh, h.lt _ m1 _ (last_mem (h.ne _ m1)), ?_⟩
   rw [← hh]
   exact h.lt _ m2 _ (head_mem (h.ne _ m2))
  ·cases hn
 ·cases hn
theorem nx_inj {cs : List Int} {rs : List (List Nat)} (h : RunsOk cs.length rs) : ∀ i j k, nx cs rs i = some k → nx cs rs j = some k → i = j := by
 intro i j k h1 h2
 obtain ⟨a1, _, a3, a4, a5, a6⟩ := nx_facts h h1
 obtain ⟨b1, _, b3, b4, b5, b6⟩ := nx_facts h h2
 have : (rs.getD i []).getLastD 0 = (rs.getD j []).getLastD 0 := mt_inj a5 b5 a3 b3 (by rw [← a4, ← b4]) a6
 have m1 := last_mem (h.ne _ (getD_mem (d := []) a1))
 have m2 := last_mem (h.ne _ (getD_mem (d := []) b1))
 rw [← this] at m2
 exact flat_one h.nod m1 m2
theorem nx_begs {cs : List Int} {rs : List (List Nat)} (h : RunsOk cs.length rs) {s : Nat} (hb : begsB cs (rs.getD s []) = true) : ∀ i, nx cs rs i ≠ some s := by
 intro i hn
 obtain ⟨a1, a2, a3, a4, a5, a6⟩ := nx_facts h hn
 have h21 := mt_21 a6 (Nat.le_of_lt a5)
 have hop : 0 ≤ opener cs (mt cs ((rs.getD i []).getLastD 0)) := (opener_iff cs _).2 ⟨_, mt_gt' a5 a3, a3, rfl⟩
 unfold begsB at hb
 rw [a4, h21, decide_eq_true hop] at hb
 cases hb
theorem chain_orb {cs : List Int} {rs : List (List Nat)} (h : RunsOk cs.length rs) : ∀ f (pre : List Nat) i, i < rs.length → chainF cs rs f (pre ++ rs.getD i []) = pre ++ (orb (nx cs rs) f i).flatMap (rs.getD · [])
 | 0, pre, i, hi => by simp [chainF, orb]
 | f + 1, pre, i, hi => by
  have hne := h.ne _ (getD_mem (d := []) hi)
  have hlast : (pre ++ rs.getD i []).getLastD 0 = (rs.getD i []).getLastD 0 := by
   rw [List.getLastD_eq_getLast?, List.getLast?_append, List.getLast?_eq_some_getLast hne, List.getLastD_eq_getLast?, List.getLast?_eq_some_getLast hne]; rfl
  rw [chainF, orb, hlast]
  have hn : nx cs rs i = nextRun cs rs ((rs.getD i []).getLastD 0) := by rw [nx, if_pos hi]
  rw [← hn]
  cases hk : nx cs rs i with
  | none => simp
  | some k =>
   simp only
   rw [chain_orb h f (pre ++ rs.getD i []) k (nx_facts h hk).2.1]
   simp
theorem flatMap_nodup {rs : List (List Nat)} (h : rs.flatten.Nodup) : ∀ (l : List Nat), l.Nodup → (l.flatMap (rs.getD · [])).Nodup
 | [], _ => by simp
 | i :: l, hl => by
  rw [List.nodup_cons] at hl
  rw [List.flatMap_cons, List.nodup_append]
  refine ⟨?_, flatMap_nodup h l hl.2, ?_⟩
  ·rcases Nat.lt_or_ge i rs.length with hi | hi
   ·exact h.sublist (List.sublist_flatten_of_mem (getD_mem hi))
   ·rw [List.getD_eq_getElem?_getD, List.getElem?_eq_none hi]; simp
  ·intro a ha b hb hab
   subst hab
   obtain ⟨j, hj, hb⟩ := List.mem_flatMap.1 hb
   have := flat_one h ha hb
   subst this
   exact hl.1 hj
def begI (cs : List Int) (rs : List (List Nat)) : List Nat := (List.range rs.length).filter fun i => begsB cs (rs.getD i [])
theorem filter_begI (cs : List Int) : ∀ rs : List (List Nat), rs.filter (begsB cs) = (begI cs rs).map (rs.getD · [])
 | [] => rfl
 | r :: rs => by
  have ih := filter_begI cs rs
  unfold begI at ih ⊢
  rw [List.length_cons, List.range_succ_eq_map, List.filter_cons, List.filter_cons]
  have e : (List.map Nat.succ (List.range rs.length)).filter (fun i => begsB cs ((r :: rs).getD i [])) = ((List.range rs.length).filter fun i => begsB cs (rs.getD i [])).map Nat.succ := by
   rw [List.filter_map]; rfl
  rw [e, ih]
  cases hb : begsB cs r <;> simp [hb, Function.comp_def]
theorem seqs_nodup {cs : List Int} {rs : List (List Nat)} (h : RunsOk cs.length rs) (f : Nat) : ((rs.filter (begsB cs)).flatMap (chainF cs rs f)).Nodup := by
 have hb : ∀ s ∈ begI cs rs, s < rs.length ∧ begsB cs (rs.getD s []) = true := by
  intro s hs
  unfold begI at hs
  rw [List.mem_filter, List.mem_range] at hs
  exact hs
 have e : (rs.filter (begsB cs)).flatMap (chainF cs rs f) = ((begI cs rs).flatMap (orb (nx cs rs) f)).flatMap (rs.getD · []) := by
  rw [filter_begI, List.flatMap_map, List.flatMap_assoc]
  have : ∀ l : List Nat, (∀ s ∈ l, s < rs.length) → l.flatMap (fun a => chainF cs rs f (rs.getD a [])) = l.flatMap fun x => (orb (nx cs rs) f x).flatMap (rs.getD · []) := by
   intro l
   induction l with
   | nil => intro _; rfl
   | cons a l ih =>
    intro hl
    rw [List.flatMap_cons, List.flatMap_cons, ih (fun s hs => hl s (by simp [hs]))]
    have := chain_orb h f [] a (hl a (by simp))
    simp only [List.nil_append] at this
    rw [this]
  exact this _ fun s hs => (hb s hs).1
 rw [e]
 refine flatMap_nodup h.nod _ (orbs_nodup (nx_inj h) f _ ?_ fun s hs => nx_begs h (hb s hs).2)
 exact List.Pairwise.filter _ List.nodup_range
theorem orb_level {cs lv : List Int} {rs : List (List Nat)} (h : RunsOk cs.length rs) (hl : ∀ r ∈ rs, ∀ p ∈ r, lv.getD p 0 = lv.getD (r.headD 0) 0) (hm : ∀ i, i < cs.length → isoB (cs.getD i 0) = true → mt cs i < cs.length → lv.getD (mt cs i) 0 = lv.getD i 0) :
  ∀ f i, i < rs.length → ∀ p ∈ (orb (nx cs rs) f i).flatMap (rs.getD · []), lv.getD p 0 = lv.getD ((rs.getD i []).headD 0) 0
 | 0, i, hi, p, hp => by simp [orb] at hp; exact hl _ (getD_mem hi) p (by simpa [List.getD_eq_getElem?_getD] using hp)
 | f + 1, i, hi, p, hp => by
  rw [orb] at hp
  cases hk : nx cs rs i with
  | none => rw [hk] at hp; simp at hp; exact hl _ (getD_mem hi) p (by simpa [List.getD_eq_getElem?_getD] using hp)
  | some k =>
   rw [hk] at hp
   simp only [List.flatMap_cons] at hp
   rcases List.mem_append.1 hp with hp | hp
   ·exact hl _ (getD_mem hi) p hp
   ·obtain ⟨a1, a2, a3, a4, a5, a6⟩ := nx_facts h hk
    rw [orb_level h hl hm f k a2 p hp, a4, hm _ a5 a3 a6]
    exact hl _ (getD_mem hi) _ (last_mem (h.ne _ (getD_mem (d := []) hi)))
theorem chain_level {cs lv : List Int} {rs : List (List Nat)} (h : RunsOk cs.length rs) (hl : ∀ r ∈ rs, ∀ p ∈ r, lv.getD p 0 = lv.getD (r.headD 0) 0) (hm : ∀ i, i < cs.length → isoB (cs.getD i 0) = true → mt cs i < cs.length → lv.getD (mt cs i) 0 = lv.getD i 0) {f : Nat} {r : List Nat} (hr : r ∈ rs) : ∀ p ∈ chainF cs rs f r, p < cs.length ∧ lv.getD p 0 = lv.getD ((chainF cs rs f r).headD 0) 0 := by
 obtain ⟨i, hi, hri⟩ := List.getElem_of_mem hr
 have hg : rs.getD i [] = r := by rw [List.getD_eq_getElem?_getD, List.getElem?_eq_getElem hi, ← hri]; rfl
 have hc := chain_orb h f [] i hi
 simp only [List.nil_append] at hc
 rw [hg] at hc
 have hhead : (chainF cs rs f r).headD 0 = r.headD 0 := by
  rw [hc]
  have : ∃ t, orb (nx cs rs) f i = i :: t := by
   cases f with
   | zero => exact ⟨[], rfl⟩
   |succ f => rw [orb]; cases nx cs rs i with
    | none => exact ⟨[], rfl⟩
    | some k => exact ⟨_, rfl⟩
  obtain ⟨t, ht⟩ := this
  rw [ht, List.flatMap_cons, hg]
  cases hr' : r with
  | nil => exact absurd hr' (h.ne r hr)
  | cons a l => rfl
 intro p hp
 rw [hhead, hc] at *
 refine ⟨?_, ?_⟩
 ·obtain ⟨j, _, hj⟩ := List.mem_flatMap.1 hp
  rcases Nat.lt_or_ge j rs.length with h' | h'
  ·exact h.lt _ (getD_mem h') p hj
  ·rw [List.getD_eq_getElem?_getD, List.getElem?_eq_none h'] at hj; cases hj
 ·rw [orb_level h hl hm f i hi p hp, hg]
end Go.Proofs.YtkbinfhclaafhaaGreatDoor
namespace Go.Proofs.YtkbinfhclaafhaaGreatDoor
def neutB (c : Int) : Bool := c == 11 || (c == 10 || (c == 12 || (isoB c || c == 21)))
def Cl (c : Int) : Prop := c = 0 ∨ c = 1 ∨ c = 3 ∨ c = 6 ∨ c = 10 ∨ c = 11 ∨ c = 12 ∨ c = 18 ∨ c = 19 ∨ c = 20 ∨ c = 21
def K0 (c : Int) : Prop := (0 ≤ c ∧ c ≤ 8) ∨ (10 ≤ c ∧ c ≤ 12) ∨ (18 ≤ c ∧ c ≤ 21)
def K1 (c : Int) : Prop := (0 ≤ c ∧ c ≤ 7) ∨ (10 ≤ c ∧ c ≤ 12) ∨ (18 ≤ c ∧ c ≤ 21)
def K3 (c : Int) : Prop := c ≠ 2 ∧ K1 c
theorem pass_all {σ : Type} {f : σ → Int → List Int → Int} {g : σ → Int → List Int → σ} {I : σ → Prop} {P Q : Int → Prop} (h : ∀ s c r, I s → P c → Q (f s c r) ∧ I (g s c r)) : ∀ (t : List Int) (s : σ), I s → (∀ c ∈ t, P c) → ∀ c ∈ pass f g s t, Q c
 | [], _, _, _, c, hc => by cases hc
 | a :: r, s, hs, hp, c, hc => by
  rw [pass] at hc
  have := h s a r hs (hp a (by simp))
  rcases List.mem_cons.1 hc with rfl | hc
  ·exact this.1
  ·exact pass_all h r _ this.2 (fun x hx => hp x (by simp [hx])) c hc
theorem numL_all {strong tt : Int} {P : Int → Prop} (ht : P tt) : ∀ (t : List Int) (last : Int), (∀ c ∈ t, P c) → ∀ c ∈ numL strong tt last t, P c
 | [], _, _, c, hc => by cases hc
 | a :: r, last, hp, c, hc => by
  rw [numL] at hc
  rcases List.mem_cons.1 hc with hc | hc
  ·rw [hc]
   generalize (if a = 0 ∨ a = 1 ∨ a = 2 then a else last) = q
   split
   ·exact ht
   ·exact hp a (by simp)
  ·exact numL_all ht r _ (fun x hx => hp x (by simp [hx])) c hc
theorem weak_classes {sos : Int} (hs : sos = 0 ∨ sos = 1) {t : List Int} (ht : ∀ c ∈ t, K0 c) : (∀ c ∈ pass f6 g3 () (pass f5 g5 none (pass f4 g4 none (pass f3 g3 () (numL 2 6 sos (pass (f1 sos) (g1 sos) none t))))), Cl c) ∧ ∀ c ∈ weakL sos t, Cl c := by
 have a1 : ∀ c ∈ pass (f1 sos) (g1 sos) none t, K1 c := by
  refine pass_all (I := fun s => ∀ p, s = some p → K1 p) (P := K0) (Q := K1) ?_ t none (by simp) ht
  intro s c r hI hc
  have : K1 (f1 sos s c r) := by
   unfold f1
   split
   ·cases s with
    | none => rcases hs with rfl | rfl <;> simp [K1]
    | some p =>
     simp only
     split
     ·simp [K1]
     ·exact hI p rfl
   ·unfold K0 at hc; unfold K1; omega
  exact ⟨this, by intro p hp; rw [g1] at hp; obtain rfl := Option.some.inj hp; exact this⟩
 have a2 : ∀ c ∈ numL 2 6 sos (pass (f1 sos) (g1 sos) none t), K1 c := numL_all (by simp [K1]) _ _ a1
 have a3 : ∀ c ∈ pass f3 g3 () (numL 2 6 sos (pass (f1 sos) (g1 sos) none t)), K3 c := by
  refine pass_all (I := fun _ => True) (P := K1) (Q := K3) ?_ _ () trivial a2
  intro s c r _ hc
  refine ⟨?_, trivial⟩
  unfold f3
  split
  ·simp [K3, K1]
  ·exact ⟨‹_›, hc⟩
 unfold weakL
 generalize pass f3 g3 () (numL 2 6 sos (pass (f1 sos) (g1 sos) none t)) = t3 at *
 have a4 : ∀ c ∈ pass f4 g4 none t3, K3 c := by
  refine pass_all (I := fun s => ∀ p, s = some p → K3 p) (P := K3) (Q := K3) ?_ t3 none (by simp) a3
  intro s c r hI hc
  have : K3 (f4 s c r) := by
   unfold f4
   split
   ·split
    ·exact hI _ rfl
    ·exact hc
   ·exact hc
  exact ⟨this, by intro p hp; rw [g4] at hp; obtain rfl := Option.some.inj hp; exact this⟩
 have a5 : ∀ c ∈ pass f5 g5 none (pass f4 g4 none t3), K3 c := by
  refine pass_all (I := fun _ => True) (P := K3) (Q := K3) ?_ _ none trivial a4
  intro s c r _ hc
  refine ⟨?_, trivial⟩
  unfold f5
  split
  ·simp [K3, K1]
  ·exact hc
 have a6 : ∀ c ∈ pass f6 g3 () (pass f5 g5 none (pass f4 g4 none t3)), Cl c := by
  refine pass_all (I := fun _ => True) (P := K3) (Q := Cl) ?_ _ () trivial a5
  intro s c r _ hc
  refine ⟨?_, trivial⟩
  unfold f6
  split
  ·simp [Cl]
  ·unfold K3 K1 at hc; unfold Cl; omega
 exact ⟨a6, numL_all (by simp [Cl]) _ _ a6⟩
def num7 : Int → List Int → List Int
 | _, [] => []
 | last, c :: r => (if c = 0 ∨ c = 1 then c else if c = 3 ∧ last = 0 then 0 else c) :: num7 (if c = 0 ∨ c = 1 then c else last) r
theorem num7_eq : ∀ (t : List Int) (last : Int), (∀ c ∈ t, c ≠ 2) → num7 last t = numL 0 0 last t
 | [], _, _ => rfl
 | c :: r, last, h => by
  have hc := h c (by simp)
  have hr := fun x hx => h x (List.mem_cons_of_mem _ hx)
  rw [num7, numL]
  by_cases h0 : c = 0 ∨ c = 1
  ·rw [if_pos h0, if_pos h0, if_pos (by omega : c = 0 ∨ c = 1 ∨ c = 2), if_neg (by omega : ¬ (c = 3 ∧ c = 0)), num7_eq r c hr]
  ·rw [if_neg h0, if_neg h0, if_neg (by omega : ¬ (c = 0 ∨ c = 1 ∨ c = 2)), num7_eq r last hr]
def nxtM (eos : Int) : List Int → Int
 | [] => strongS eos
 | c :: r => if neutB c = true then nxtM eos r else strongS c
def fM (eos : Int) (s c : Int) (r : List Int) : Int := if neutB c = true then (if s = nxtM eos r then s else c) else c
def gM (s c : Int) (_ : List Int) : Int := if neutB c = true then s else strongS c
def n2F (e c : Int) : Int := if neutB c = true then e else c
theorem Cl.neut {c : Int} (h : Cl c) : (neutB c = true ↔ strongS c < 0) := by
 unfold Cl at h
 rcases h with rfl | rfl | rfl | rfl | rfl | rfl | rfl | rfl | rfl | rfl | rfl <;> decide
theorem nxtM_eq {eos : Int} (he : eos = 0 ∨ eos = 1) : ∀ t : List Int, (∀ c ∈ t, Cl c) → nxtM eos t = nxtS eos t
 | [], _ => by rw [nxtM, nxtS]; rcases he with rfl | rfl <;> decide
 | c :: r, h => by
  have hc := (h c (by simp)).neut
  rw [nxtM, nxtS, nxtM_eq he r (fun x hx => h x (by simp [hx]))]
  by_cases hn : neutB c = true
  ·rw [if_pos hn, if_pos (hc.1 hn)]
  ·rw [if_neg hn, if_neg (fun h' => hn (hc.2 h'))]
theorem strongS_01 {c : Int} (h : ¬ strongS c < 0) : strongS c = 0 ∨ strongS c = 1 := by
 unfold strongS at *
 split
 ·exact .inl rfl
 ·split
  ·exact .inr rfl
  ·rename_i h0 h1; rw [if_neg h0, if_neg h1] at h; exact absurd (by decide) h
theorem neut_eq {eos e : Int} (he : eos = 0 ∨ eos = 1) : ∀ (t : List Int) (s : Int), (s = 0 ∨ s = 1) → (∀ c ∈ t, Cl c) → (pass (fM eos) gM s t).map (n2F e) = pass (fN eos e) gN s t
 | [], _, _, _ => rfl
 | c :: r, s, hs, h => by
  have hc := (h c (by simp)).neut
  have hr := fun x hx => h x (List.mem_cons_of_mem _ hx)
  rw [pass, pass, List.map_cons]
  by_cases hn : neutB c = true
  ·have hlt := hc.1 hn
   have hg : gM s c r = s := by rw [gM, if_pos hn]
   have hg' : gN s c r = s := by rw [gN, if_pos hlt]
   rw [hg, hg', neut_eq he r s hs hr, fM, if_pos hn, nxtM_eq he r hr, fN, if_pos hlt]
   congr 1
   by_cases hx : s = nxtS eos r
   ·rw [if_pos hx, if_pos hx, n2F, if_neg (by rcases hs with rfl | rfl <;> decide)]
   ·rw [if_neg hx, if_neg hx, n2F, if_pos hn]
  ·have hge : ¬ strongS c < 0 := fun h' => hn (hc.2 h')
   have hg : gM s c r = strongS c := by rw [gM, if_neg hn]
   have hg' : gN s c r = strongS c := by rw [gN, if_neg hge]
   rw [hg, hg', neut_eq he r _ (strongS_01 hge) hr, fM, if_neg hn, fN, if_neg hge, n2F, if_neg hn]
theorem neut_strong {sos eos e : Int} (hs : sos = 0 ∨ sos = 1) (he : e = 0 ∨ e = 1) {t : List Int} : ∀ c ∈ neutL sos eos e t, c = 0 ∨ c = 1 ∨ c = 3 ∨ c = 6 := by
 refine pass_all (I := fun s => s = 0 ∨ s = 1) (P := fun _ => True) (Q := fun c => c = 0 ∨ c = 1 ∨ c = 3 ∨ c = 6) ?_ t sos hs (fun _ _ => trivial)
 intro s c r hI _
 by_cases hn : strongS c < 0
 ·rw [fN, if_pos hn, gN, if_pos hn]
  refine ⟨?_, hI⟩
  split <;> omega
 ·rw [fN, if_neg hn, gN, if_neg hn]
  refine ⟨?_, strongS_01 hn⟩
  unfold strongS at hn
  by_cases h0 : c = 0
  ·exact .inl h0
  ·rw [if_neg h0] at hn
   by_cases h1 : c = 1 ∨ c = 3 ∨ c = 6
   ·omega
   ·rw [if_neg h1] at hn; exact absurd (by decide) hn
def hasF (own : Int) (t : List Int) (a : Nat) : Nat → Bool
 | 0 => false
 | m + 1 => strongS (t.getD a 0) == own || hasF own t (a + 1) m
theorem anyF_first (p : Int → Bool) (t : List Int) : ∀ m a, anyF p t a (m + 1) = (p (t.getD a 0) || anyF p t (a + 1) m)
 | 0, a => by simp [anyF]
 | m + 1, a => by
  rw [anyF, anyF_first p t m a, anyF, Bool.or_assoc, show a + (m + 1) = a + 1 + m by omega]
theorem anyF_has (own : Int) (t : List Int) : ∀ m a, anyF (sameB own) t a m = hasF own t a m
 | 0, a => rfl
 | m + 1, a => by rw [anyF_first, hasF, anyF_has own t m (a + 1)]; rfl
def othF (t : List Int) (a : Nat) : Nat → Int → Int
 | 0, w => w
 | m + 1, w => othF t (a + 1) m (if strongS (t.getD a 0) = -1 then w else strongS (t.getD a 0))
theorem othF_facts {own : Int} (ho : own = 0 ∨ own = 1) (t : List Int) : ∀ m a w, (w = -1 ∨ w = 1 - own) → hasF own t a m = false → (othF t a m w = if w = -1 ∧ anyF (otherB own) t a m = false then -1 else 1 - own)
 | 0, a, w, hw, _ => by
  rw [othF, anyF]
  rcases hw with rfl | rfl
  ·simp
  ·rw [if_neg (by omega)]
 | m + 1, a, w, hw, hh => by
  rw [hasF, Bool.or_eq_false_iff] at hh
  have hne : strongS (t.getD a 0) ≠ own := by simpa using hh.1
  rw [othF, anyF_first]
  by_cases hn : strongS (t.getD a 0) = -1
  ·rw [if_pos hn, othF_facts ho t m (a + 1) w hw hh.2]
   have : otherB own (t.getD a 0) = false := by unfold otherB; rw [hn]; rfl
   rw [this, Bool.false_or]
  ·have h01 : strongS (t.getD a 0) = 0 ∨ strongS (t.getD a 0) = 1 := strongS_01 (by
    intro hlt
    unfold strongS at hn hlt
    split at hlt
    ·omega
    ·split at hlt
     ·omega
     ·rename_i x y; rw [if_neg x, if_neg y] at hn; exact hn rfl)
   have : otherB own (t.getD a 0) = true := by unfold otherB; rw [Bool.and_eq_true, decide_eq_true_eq, bne_iff_ne]; exact ⟨by omega, hne⟩
   rw [if_neg hn, this, othF_facts ho t m (a + 1) _ (.inr (by omega)) hh.2, if_neg (by omega), if_neg (by simp)]
theorem lastF_01 {sos : Int} (hs : sos = 0 ∨ sos = 1) (t : List Int) : ∀ m, lastF sos t m = 0 ∨ lastF sos t m = 1
 | 0 => hs
 | m + 1 => by
  rw [lastF]
  split
  ·exact lastF_01 hs t m
  ·exact strongS_01 ‹_›
def pairSideP (t : List Int) (p : Nat × Nat) (own sos : Int) : Int :=
 if hasF own t (p.1 + 1) (p.2 - (p.1 + 1)) = true then own
 else if othF t (p.1 + 1) (p.2 - (p.1 + 1)) (-1) ≠ -1 ∧ lastF sos t p.1 ≠ othF t (p.1 + 1) (p.2 - (p.1 + 1)) (-1) then own else othF t (p.1 + 1) (p.2 - (p.1 + 1)) (-1)
def pairedP (t orig : List Int) (p : Nat × Nat) (own sos : Int) : List Int :=
 if pairSideP t p own sos = -1 then t else setBr orig (pairSideP t p own sos) p.2 (setBr orig (pairSideP t p own sos) p.1 t)
theorem paired_eq {own sos : Int} (ho : own = 0 ∨ own = 1) (hs : sos = 0 ∨ sos = 1) (t orig : List Int) (p : Nat × Nat) : pairedP t orig p own sos = pairedL t orig p own sos := by
 unfold pairedP pairedL pairSideP pairD
 rw [anyF_has]
 have hl := lastF_01 hs t p.1
 cases hh : hasF own t (p.1 + 1) (p.2 - (p.1 + 1)) with
 | true =>
  simp only [if_true]
  rw [if_neg (by omega), if_neg (by simp)]
 | false =>
  have hf := othF_facts ho t (p.2 - (p.1 + 1)) (p.1 + 1) (-1) (.inl rfl) hh
  cases ho' : anyF (otherB own) t (p.1 + 1) (p.2 - (p.1 + 1)) with
  | false =>
   rw [ho', if_pos ⟨rfl, rfl⟩] at hf
   rw [hf]
   simp
  | true =>
   rw [ho', if_neg (by simp)] at hf
   rw [hf]
   have e : (if (1 - own ≠ -1 ∧ lastF sos t p.1 ≠ 1 - own) then own else 1 - own) = lastF sos t p.1 := by
    by_cases hx : lastF sos t p.1 = 1 - own
    ·rw [if_neg (fun h => h.2 hx), hx]
    ·rw [if_pos ⟨by omega, hx⟩]; omega
   simp only [if_false, Bool.false_eq_true]
   rw [e, if_neg (by omega), if_neg (by simp)]
end Go.Proofs.YtkbinfhclaafhaaGreatDoor
namespace Go.Proofs.YtkbinfhclaafhaaGreatDoor
def riseS (l c : Int) : Int := if (c = 3 ∨ c = 6) ∧ l % 2 = 0 then 2 else if (c = 3 ∨ c = 6) ∨ c ≠ (if l % 2 = 0 then 0 else 1) then 1 else 0
theorem rise_impl {l c : Int} (hc : c = 0 ∨ c = 1 ∨ c = 3 ∨ c = 6) : l + riseS l c = implS c l := by
 unfold riseS implS
 by_cases hl : l % 2 = 0
 ·rw [if_pos hl, if_pos hl]
  rcases hc with rfl | rfl | rfl | rfl <;> simp [hl]
 ·rw [if_neg hl, if_neg hl]
  rcases hc with rfl | rfl | rfl | rfl <;> simp [hl]
def setF (l : List Int) (x : Nat × Int × Int) : List Int := l.set x.1 (implS x.2.2 x.2.1)
def addF (l : List Int) (x : Nat × Int × Int) : List Int := l.set x.1 (l.getD x.1 0 + riseS x.2.1 x.2.2)
theorem add_set : ∀ (xs : List (Nat × Int × Int)) (l : List Int), (xs.map Prod.fst).Nodup → (∀ x ∈ xs, l.getD x.1 0 = x.2.1 ∧ (x.2.2 = 0 ∨ x.2.2 = 1 ∨ x.2.2 = 3 ∨ x.2.2 = 6)) → xs.foldl addF l = xs.foldl setF l
 | [], _, _, _ => rfl
 | x :: xs, l, hn, h => by
  rw [List.map_cons, List.nodup_cons] at hn
  have hx := h x (by simp)
  have e : addF l x = setF l x := by
   unfold addF setF
   rw [hx.1, rise_impl hx.2]
  rw [List.foldl_cons, List.foldl_cons, e]
  refine add_set xs _ hn.2 fun y hy => ?_
  have hy' := h y (by simp [hy])
  refine ⟨?_, hy'.2⟩
  unfold setF
  rw [getD_set_ne]
  ·exact hy'.1
  ·intro he
   exact hn.1 (by rw [he]; exact List.mem_map.2 ⟨y, hy, rfl⟩)
def trip (at' : List Nat) (lev : Int) (t : List Int) : List (Nat × Int × Int) := (at'.zip t).map fun x => (x.1, lev, x.2)
theorem trip_fst (at' : List Nat) (lev : Int) (t : List Int) (h : at'.length ≤ t.length) : (trip at' lev t).map Prod.fst = at' := by
 unfold trip
 rw [List.map_map]
 show (at'.zip t).map Prod.fst = at'
 exact List.map_fst_zip h
def trailOn : List Int → Bool
 | [] => true
 | c :: r => if c = 10 then true else if looseB c = true then trailOn r else false
def resetB (c : Int) (r : List Int) : Bool := c == 10 || (looseB c && trailOn r)
def finL (para : Int) : Int → List Int → List Int → List Int
 | _, [], _ => []
 | _, _ :: _, [] => []
 | prev, c :: cs, o :: os =>
  (if resetB c cs = true then para else if leftB c = false then prev else o) :: finL para (if resetB c cs = true then para else if leftB c = false then prev else o) cs os
def l1a (para c o : Int) : Int := if c = 10 then para else if leftB c = false then -1 else o
def l1b (para c : Int) (r : List Int) (v : Int) : Int := if looseB c = true ∧ trailOn r = true then para else v
def l1 (para : Int) : List Int → List Int → List Int
 | [], _ => []
 | _ :: _, [] => []
 | c :: cs, o :: os => l1b para c cs (l1a para c o) :: l1 para cs os
def fillP : Int → List Int → List Int
 | _, [] => []
 | a, v :: r => (if v = -1 then a else v) :: fillP (if v = -1 then a else v) r
theorem fill_fin {para : Int} (hp : para ≠ -1) : ∀ (cs os : List Int) (prev : Int), (∀ o ∈ os, o ≠ -1) → fillP prev (l1 para cs os) = finL para prev cs os
 | [], _, _, _ => rfl
 | _ :: _, [], _, _ => rfl
 | c :: cs, o :: os, prev, h => by
  have ho := h o (by simp)
  have key : (if l1b para c cs (l1a para c o) = -1 then prev else l1b para c cs (l1a para c o)) = (if resetB c cs = true then para else if leftB c = false then prev else o) := by
   unfold l1b l1a
   by_cases h10 : c = 10
   ·subst h10
    have e1 : ¬ (looseB 10 = true ∧ trailOn cs = true) := fun h => absurd h.1 (by decide)
    have e2 : resetB 10 cs = true := rfl
    rw [if_neg e1, if_pos rfl, if_neg hp, if_pos e2]
   ·have e2 : resetB c cs = (looseB c && trailOn cs) := by
     unfold resetB
     rw [show (c == 10) = false by simpa using h10, Bool.false_or]
    rw [e2]
    by_cases hl : looseB c = true ∧ trailOn cs = true
    ·rw [if_pos hl, if_neg hp, if_pos (by rw [Bool.and_eq_true]; exact hl)]
    ·rw [if_neg hl, if_neg h10, if_neg (show ¬ (looseB c && trailOn cs) = true by rw [Bool.and_eq_true]; exact hl)]
     by_cases hf : leftB c = false
     ·rw [if_pos hf, if_pos hf, if_pos rfl]
     ·rw [if_neg hf, if_neg hf, if_neg ho]
  rw [l1, fillP, finL, key, fill_fin hp cs os _ (fun x hx => h x (by simp [hx]))]
def pairsL (t rs : List Int) : List (Nat × Nat) := match pairF t rs t.length 0 ([], []) with
 | none => []
 | some out => out.mergeSort fun a b => decide (a.1 ≤ b.1)
theorem pairsL_is (t rs : List Int) : IsPairs t rs (pairsL t rs) := by
 unfold IsPairs pairsL
 cases hp : pairF t rs t.length 0 ([], []) with
 | none => rfl
 | some out =>
  simp only
  refine ⟨List.mergeSort_perm _ _, ?_⟩
  have := List.pairwise_mergeSort (le := fun (a b : Nat × Nat) => decide (a.1 ≤ b.1)) (by intro a b c; simp; omega) (by intro a b; simp; omega) out
  exact this.imp (by intro a b h; simpa using h)
theorem IsPairs.is {t rs : List Int} {ps : List (Nat × Nat)} (h : IsPairs t rs ps) : ps = pairsL t rs := h.one (pairsL_is t rs)
def n0L (t orig : List Int) (ps : List (Nat × Nat)) (e sos : Int) : List Int := ps.foldl (fun t p => pairedL t orig p e sos) t
theorem n0L_length (orig : List Int) (e sos : Int) : ∀ (ps : List (Nat × Nat)) (t : List Int), (n0L t orig ps e sos).length = t.length
 | [], t => rfl
 | p :: ps, t => by rw [n0L, List.foldl_cons]; exact (n0L_length orig e sos ps _).trans (pairedL_length _ _ _ _ _)
def solveT (rs kinds : List Int) (s : Sq) : List Int :=
 neutL s.sos s.eos (s.level % 2) (n0L (weakL s.sos (gath kinds s.at')) (gath kinds s.at') (pairsL (weakL s.sos (gath kinds s.at')) (gath rs s.at')) (s.level % 2) s.sos)
def seqTrip (rs kinds : List Int) (s : Sq) : List (Nat × Int × Int) := trip s.at' s.level (solveT rs kinds s)
def paraL (cs : List Int) (d : Int) : Int := if d = 0 ∨ d = 1 then d else found cs
def levelsL (rs cs : List Int) (d : Int) : List Int :=
 finL (paraL cs d) (paraL cs d) cs (((seqsL cs (xLevels cs (paraL cs d)) (xLeft cs) (paraL cs d)).flatMap (seqTrip rs (xKinds cs (paraL cs d)))).foldl setF (xLevels cs (paraL cs d)))
end Go.Proofs.YtkbinfhclaafhaaGreatDoor
