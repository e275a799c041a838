import Derived.Test.YtkbinfhclaafhaaGreatDoorM10
import Derived.BigQuiet
import Derived.Maps.Keyed
import Derived.ChangeMaps4
namespace Go.Proofs.YtkbinfhclaafhaaGreatDoor
open Go.RowKit
theorem leftP_succ (lf : List Bool) (k : Nat) : leftP lf (k + 1) = leftP lf k ++ (if isL lf k = true then [k] else []) := by
 rw [leftP, List.range_succ, List.filter_append, List.filter_cons, List.filter_nil]; rfl
theorem leftP_len (lf : List Bool) (k : Nat) : (leftP lf k).length ≤ k := by
 have := List.length_filter_le (isL lf) (List.range k)
 rw [List.length_range] at this
 exact this
theorem leftP_mem {lf : List Bool} {n p : Nat} (h : p ∈ leftP lf n) : p < n ∧ isL lf p = true := ⟨List.mem_range.1 (List.mem_filter.1 h).1, (List.mem_filter.1 h).2⟩
set_option maxRecDepth 100000 in
set_option maxHeartbeats 8000000 in
theorem left_any (w : World) (L : LP) (ks ls : List Int) (h : LX w L ks ls) (hn : L.n ≤ 1000) :
  Calls Tryz.prog 218 #[.pointer (some ⟨L.lb, 0, none⟩)] w fun e w' => ∃ v, e = .returned v ∧ w'.ownsRow w.heap.size 3 1 v (leftP (xLeft L.cs) L.n).length (iv (nl (leftP (xLeft L.cs) L.n))) ∧ Below w.heap.size w w' := by
 obtain ⟨iI, hiI, hzI0, hzI1, hzI2⟩ := info_parts Tryz.infoI8
 have a1 := h.f1
 have HX : Hid (LX w L ks ls) := h
 clear h
 go_enter Tryz.func218, Tryz.ntmps218
 go_wp2
 clear a1
 go_loopg [3, 11] L.n (fun gh pv kv W => ∃ k : Nat, k ≤ L.n ∧ gh = L.n - k ∧ kv = .int .i64 k ∧ W.ownsRow w.heap.size 3 1 pv (leftP (xLeft L.cs) k).length (iv (nl (leftP (xLeft L.cs) k))) ∧ Below w.heap.size w W)
 case atStart => exact ⟨0, by omega, rfl, rfl, World.ownsRow_nil _ _ _ _, Below.refl _ _⟩
 case round =>
  obtain ⟨k, hk, rfl, rfl, hrow, hb⟩ := hrel
  obtain ⟨pa, pc, rfl⟩ := own_form hrow
  have hbz := hb.size
  have hpl := leftP_len (xLeft L.cs) k
  by_cases hlt : k < L.n
  ·have hX := HX.out.below hb
   have b1 := hX.ct k hlt
   have hlt' : (k : Int) < (L.n : Int) := by omega
   have hsuc := leftP_succ (xLeft L.cs) k
   have hisl : isL (xLeft L.cs) k = leftB (L.cs.getD k 0) := xLeftW_at (by rw [HX.out.len]; exact hlt)
   rw [hisl] at hsuc
   clear hX hisl
   generalize L.cs.getD k 0 = c at *
   cases hl : leftB c
   ·rw [hl, if_neg (by decide), List.append_nil] at hsuc
    have HL : Hid ((!leftB c) = true) := by show _ = _; rw [hl]; rfl
    have HR : Hid (wr.ownsRow w.heap.size 3 1 (.slice pa (leftP (xLeft L.cs) k).length pc) (leftP (xLeft L.cs) (k + 1)).length (iv (nl (leftP (xLeft L.cs) (k + 1))))) := by rw [hsuc]; exact hrow
    have HB : Hid (Below w.heap.size w wr) := hb
    clear hl hsuc hrow hb
    go_wp2_with fail
    refine (takenOut_any c _).mono ?_
    rintro ev wx ⟨rfl, hx⟩
    have hx' := hx.symm
    subst hx'
    rw [HL.out]
    go_wp2
    go_roundg (L.n - (k + 1))
    case measure => omega
    case rel => exact ⟨k + 1, by omega, rfl, by go_num, HR.out, HB.out⟩
   ·rw [hl, if_pos rfl] at hsuc
    have HL : Hid ((!leftB c) = false) := by show _ = _; rw [hl]; rfl
    have HS : Hid (leftP (xLeft L.cs) (k + 1) = leftP (xLeft L.cs) k ++ [k]) := hsuc
    clear hl hsuc
    go_wp2_with fail
    refine (takenOut_any c _).mono ?_
    rintro ev wx ⟨rfl, hx⟩
    have hx' := hx.symm
    subst hx'
    rw [HL.out]
    go_wp2_with (at_builtin; refine wpList_push2 _ rfl _ _ 31 rfl w.heap.size 3 iI (.int .i64 0) 8 Tryz.underlying31 hiI hzI0 hzI1 hzI2 rfl (by decide) _ _ _ rfl hrow _ _ rfl rfl (by omega) hbz ?_)
    intro v' w5 hown5 hg5
    have HR : Hid (w5.ownsRow w.heap.size 3 1 v' (leftP (xLeft L.cs) (k + 1)).length (iv (nl (leftP (xLeft L.cs) (k + 1))))) := by
     rw [HS.out]
     have e : iv (nl (leftP (xLeft L.cs) k ++ [k])) = iv (nl (leftP (xLeft L.cs) k)) ++ [.int .i64 (k : Int)] := by simp [iv, nl]
     rw [e, List.length_append]
     exact hown5
    have HB : Hid (Below w.heap.size w w5) := hb.grown hg5 hbz fun q hq => (hrow.lt q hq).1
    clear hown5 hg5 hrow hb
    go_wp2
    go_roundg (L.n - (k + 1))
    case measure => omega
    case rel => exact ⟨k + 1, by omega, rfl, by go_num, HR.out, HB.out⟩
  ·obtain rfl : k = L.n := by omega
   have HR : Hid _ := hrow
   have HB : Hid _ := hb
   clear hrow hb
   go_wp2
   go_ret
   exact ⟨_, rfl, HR.out, HB.out⟩
def segV (g : Nat) (ab : Nat × Nat) : Value := .slice (some ⟨g, ab.1, none⟩) (ab.2 - ab.1) (ab.2 - ab.1)
def segL (left : List Nat) (ab : Nat × Nat) : List Nat := (left.take ab.2).drop ab.1
structure RunsAt (w : World) (B : Nat) (v : Value) (g : Nat) (left : List Nat) (segs : List (Nat × Nat)) : Prop where
 row : w.ownsRow B 31 1 v segs.length (segs.map (segV g))
 lf : IntsAt w g 0 (nl left)
 ok : ∀ ab ∈ segs, ab.1 < ab.2 ∧ ab.2 ≤ left.length
 lt : left ≠ [] → B ≤ g ∧ g < w.heap.size
 ty : left ≠ [] → ∃ cs, w.heap[g]? = some (.cells cs 3 (0, 0))
set_option maxRecDepth 100000 in
set_option maxHeartbeats 16000000 in
theorem runs_any (w : World) (L : LP) (ks ls : List Int) (h : LX w L ks ls) (hn : L.n ≤ 1000) :
  Calls Tryz.prog 154 #[.pointer (some ⟨L.lb, 0, none⟩)] w fun e w' => ∃ v g segs, e = .returned v ∧ RunsAt w' w.heap.size v g (leftP (xLeft L.cs) L.n) segs ∧ segs.map (segL (leftP (xLeft L.cs) L.n)) = runsL ls (xLeft L.cs) ∧ Below w.heap.size w w' := by
 obtain ⟨iS, hiS, hzS0, hzS1, hzS2⟩ := info_parts Tryz.infoSl
 have HX : Hid (LX w L ks ls) := h
 have HLf : Hid (Calls Tryz.prog 218 #[.pointer (some ⟨L.lb, 0, none⟩)] w fun e w' => ∃ v, e = .returned v ∧ w'.ownsRow w.heap.size 3 1 v (leftP (xLeft L.cs) L.n).length (iv (nl (leftP (xLeft L.cs) L.n))) ∧ Below w.heap.size w w') := left_any w L ks ls h hn
 have hll := leftP_len (xLeft L.cs) L.n
 have HG0 : Hid (GrpTo ls (leftP (xLeft L.cs) L.n) (runsL ls (xLeft L.cs)) [] 0) := by have := GrpTo.start ls (xLeft L.cs); rw [h.kl.2] at this; exact this
 have HM : Hid (∀ k, k < (leftP (xLeft L.cs) L.n).length → (leftP (xLeft L.cs) L.n).getD k 0 < L.n) := fun k hk => (leftP_mem (getD_mem hk)).1
 clear h
 generalize leftP (xLeft L.cs) L.n = left at *
 generalize runsL ls (xLeft L.cs) = R at *
 go_enter Tryz.func154, Tryz.ntmps154
 go_wp2_with fail
 refine HLf.out.mono ?_
 rintro ev w2 ⟨lv, rfl, hown, hb2⟩
 obtain ⟨la, lc, rfl⟩ := own_form hown
 obtain ⟨g, hg⟩ : ∃ g, 0 < left.length → la = some ⟨g, 0, none⟩ := by
  by_cases h0 : 0 < left.length
  ·obtain ⟨g, cap, hv, _⟩ := own_some hown h0
   exact ⟨g, fun _ => by simpa using (by simpa using hv : la = some ⟨g, 0, none⟩ ∧ lc = cap).1⟩
  ·exact ⟨0, fun h => absurd h h0⟩
 have HOwn : Hid (w2.ownsRow w.heap.size 3 1 (.slice la left.length lc) left.length (iv (nl left))) := hown
 have HB2 : Hid (Below w.heap.size w w2) := hb2
 have HGG : Hid (0 < left.length → la = some ⟨g, 0, none⟩) := hg
 clear hown hb2 HLf hg
 go_wp2
 go_loopg [4, 5] left.length (fun gh rv fv W => ∃ (f : Nat) (segs : List (Nat × Nat)), f ≤ left.length ∧ gh = left.length - f ∧ fv = .int .i64 f ∧ segs.length ≤ f ∧ W.ownsRow w.heap.size 31 1 rv segs.length (segs.map (segV g)) ∧ W.ownsRow w.heap.size 3 1 (.slice la left.length lc) left.length (iv (nl left)) ∧ Below w.heap.size w W ∧ (∀ ab ∈ segs, ab.1 < ab.2 ∧ ab.2 ≤ left.length) ∧ GrpTo ls left R (segs.map (segL left)) f)
 case atStart => exact ⟨0, [], by omega, rfl, rfl, by simp, World.ownsRow_nil _ _ _ _, HOwn.out, HB2.out, by simp, HG0.out⟩
 case round =>
  clear HOwn HB2 HG0
  obtain ⟨f, segs, hf, rfl, rfl, hsf, hrow, hown, hb, hok, hG⟩ := hrel
  obtain ⟨ra, rc, rfl⟩ := own_form hrow
  have hbz := hb.size
  by_cases hlt : f < left.length
  ·have hlt' : (f : Int) < (left.length : Int) := by omega
   have hla := HGG.out (by omega)
   subst hla
   have HROW : Hid (wr.ownsRow w.heap.size 31 1 (.slice ra segs.length rc) segs.length (segs.map (segV g))) := hrow
   have HOWN : Hid (wr.ownsRow w.heap.size 3 1 (.slice (some ⟨g, 0, none⟩) left.length lc) left.length (iv (nl left))) := hown
   have hcap : left.length ≤ lc := (own_some hown (by omega)).choose_spec.choose_spec.2.1 |> fun h => by
    obtain ⟨g', c', hv, hc, _⟩ := own_some hown (show 0 < left.length by omega)
    have : lc = c' := by have := hv; simp at this; exact this.2
    omega
   have HB : Hid (Below w.heap.size w wr) := hb
   have HOK : Hid (∀ ab ∈ segs, ab.1 < ab.2 ∧ ab.2 ≤ left.length) := hok
   have HI : Hid (InTo ls left R (segs.map (segL left)) f (f + 1)) := hG.opn hlt
   have HC : Hid (∀ k, k < left.length → wr.cell? ⟨g, k, none⟩ = some (.int .i64 ((left.getD k 0 : Nat) : Int)) ∧ wr.cell? ⟨L.gl, left.getD k 0, none⟩ = some (.int .i64 (ls.getD (left.getD k 0) 0)) ∧ left.getD k 0 < L.n) := fun k hk => by
    have h1 := own_icell hown k (by rw [nl_length]; exact hk)
    rw [nl_getD _ _ hk] at h1
    exact ⟨h1, (HX.out.below hb).cl _ (HM.out k hk), HM.out k hk⟩
   have a3 := (HX.out.below hb).f3
   obtain ⟨cf1, cf2, cf3⟩ := HC.out f hlt
   clear hrow hown hb hok hG
   obtain ⟨W1, hW1⟩ : ∃ W1, W1 = wr := ⟨_, rfl⟩
   subst hW1
   go_wp2
   go_loopg [6] (left.length - (f + 1)) (fun gh tv W => ∃ (t m : Nat), f + 1 ≤ t ∧ t ≤ left.length ∧ gh = left.length - t ∧ tv = .int .i64 t ∧ W = W1.drewN m ∧ InTo ls left R (segs.map (segL left)) f t)
   case atStart => exact ⟨f + 1, 0, by omega, by omega, rfl, by go_num, rfl, HI.out⟩
   case round =>
    obtain ⟨t, m, hft, ht, rfl, rfl, rfl, hI⟩ := hrel
    clear HI
    have hbf : ((left.getD f 0 : Nat) : Int) < (L.n : Int) := by omega
    by_cases hgo : t < left.length ∧ ls.getD (left.getD t 0) 0 = ls.getD (left.getD f 0) 0
    ·obtain ⟨ct1, ct2, ct3⟩ := HC.out t hgo.1
     have HI2 : Hid (InTo ls left R (segs.map (segL left)) f (t + 1)) := hI.more (by omega) hgo.1 hgo.2
     have htl := hgo.1
     have ht' : (t : Int) < (left.length : Int) := by omega
     have hbt : ((left.getD t 0 : Nat) : Int) < (L.n : Int) := by omega
     have heq : (ls.getD (left.getD t 0) 0 == ls.getD (left.getD f 0) 0) = true := by simpa using hgo.2
     clear hgo hI
     generalize ls.getD (left.getD t 0) 0 = lt' at *
     generalize ls.getD (left.getD f 0) 0 = lf' at *
     generalize left.getD t 0 = pt at *
     generalize left.getD f 0 = pf at *
     go_wp2_with fail
     go_quiet (fail)
     go_wp2
     go_roundg (left.length - (t + 1))
     case measure => omega
     case rel => exact ⟨t + 1, _, by omega, by omega, rfl, by go_num, rfl, HI2.out⟩
    ·have HG2 : Hid (GrpTo ls left R (segs.map (segL left) ++ [(left.take t).drop f]) t) := hI.shut (by omega) ht (by
      by_cases h : t < left.length
      ·exact .inr fun e => hgo ⟨h, e⟩
      ·exact .inl h)
     have hr2 : (W1.drewN m).ownsRow w.heap.size 31 1 (.slice ra segs.length rc) segs.length (segs.map (segV g)) := own_grown HROW.out (drewN_grown (r := none)) (by cases (Value.slice ra segs.length rc).ownBlock <;> simp)
     have hbz2 : w.heap.size ≤ (W1.drewN m).heap.size := hbz
     have hnone : (Value.slice ra segs.length rc).ownBlock = none ∨ (Value.slice ra segs.length rc).ownBlock ≠ none := by cases (Value.slice ra segs.length rc).ownBlock <;> simp
     have hft1 : (f : Int) ≤ (t : Int) := by omega
     have htc : (t : Int) ≤ (lc : Int) := by omega
     have hcnt : Hid (segs.length ≤ 1000) := by show _ ≤ _; omega
     by_cases htl : t < left.length
     case pos =>
      obtain ⟨ct1, ct2, ct3⟩ := HC.out t htl
      have ht' : (t : Int) < (left.length : Int) := by omega
      have hbt : ((left.getD t 0 : Nat) : Int) < (L.n : Int) := by omega
      have heq : (ls.getD (left.getD t 0) 0 == ls.getD (left.getD f 0) 0) = false := by
       simp only [beq_eq_false_iff_ne]
       exact fun e => hgo ⟨htl, e⟩
      clear hgo hI
      generalize ls.getD (left.getD t 0) 0 = lt' at *
      generalize ls.getD (left.getD f 0) 0 = lf' at *
      generalize left.getD t 0 = pt at *
      generalize left.getD f 0 = pf at *
      go_wp2_with fail
      go_quiet (fail)
      have HR5 : ((W1.drewN m).drewN nq).ownsRow w.heap.size 31 1 (.slice ra segs.length rc) segs.length (segs.map (segV g)) := own_grown (own_grown HROW.out (drewN_grown (r := none)) hnone) (drewN_grown (r := none)) hnone
      have HO5 : Hid (((W1.drewN m).drewN nq).ownsRow w.heap.size 3 1 (.slice (some ⟨g, 0, none⟩) left.length lc) left.length (iv (nl left))) := own_grown (own_grown HOWN.out (drewN_grown (r := none)) (.inr (by simp [Value.ownBlock]))) (drewN_grown (r := none)) (.inr (by simp [Value.ownBlock]))
      have HB5 : Hid (Below w.heap.size w ((W1.drewN m).drewN nq)) := below_drewN (below_drewN HB.out _) _
      have hz5 : w.heap.size ≤ ((W1.drewN m).drewN nq).heap.size := hbz
      generalize (W1.drewN m).drewN nq = W5 at *
      clear hr2 hbz2
      go_wp2_with (at_builtin; refine wpList_push2 _ rfl _ _ 127 rfl w.heap.size 31 iS (.slice none 0 0) 24 Tryz.underlying127 hiS hzS0 hzS1 hzS2 rfl (by decide) _ _ _ rfl HR5 _ _ rfl rfl (by have := hcnt.out; omega) hz5 ?_)
      intro v6 w6 hown6 hg6
      have HR6 : Hid (w6.ownsRow w.heap.size 31 1 v6 (segs ++ [(f, t)]).length ((segs ++ [(f, t)]).map (segV g))) := by
       rw [List.map_append, List.length_append]
       exact hown6
      have HO6 : Hid (w6.ownsRow w.heap.size 3 1 (.slice (some ⟨g, 0, none⟩) left.length lc) left.length (iv (nl left))) := own_grown HO5.out hg6 (own_types HO5.out HR5 (by decide))
      have HB6 : Hid (Below w.heap.size w w6) := HB5.out.grown hg6 hz5 fun q hq => (HR5.lt q hq).1
      have HOK6 : Hid (∀ ab ∈ segs ++ [(f, t)], ab.1 < ab.2 ∧ ab.2 ≤ left.length) := fun ab hab => by
       rcases List.mem_append.1 hab with h | h
       ·exact HOK.out ab h
       ·rw [List.mem_singleton.1 h]; exact ⟨hft, ht⟩
      have HG6 : Hid (GrpTo ls left R ((segs ++ [(f, t)]).map (segL left)) t) := by rw [List.map_append]; exact HG2.out
      clear hown6 hg6 HR5
      go_wp2
      go_roundg (left.length - t)
      case measure => omega
      case rel => exact ⟨t, segs ++ [(f, t)], ht, rfl, by go_num, by rw [List.length_append, List.length_singleton]; omega, HR6.out, HO6.out, HB6.out, HOK6.out, HG6.out⟩
     case neg =>
      have ht' : ¬ (t : Int) < (left.length : Int) := by omega
      have ht2 : decide ((t : Int) < (left.length : Int)) = false := by simpa using ht'
      clear hgo hI
      go_wp2_with fail
      go_quiet (fail)
      have HR5 : ((W1.drewN m).drewN nq).ownsRow w.heap.size 31 1 (.slice ra segs.length rc) segs.length (segs.map (segV g)) := own_grown (own_grown HROW.out (drewN_grown (r := none)) hnone) (drewN_grown (r := none)) hnone
      have HO5 : Hid (((W1.drewN m).drewN nq).ownsRow w.heap.size 3 1 (.slice (some ⟨g, 0, none⟩) left.length lc) left.length (iv (nl left))) := own_grown (own_grown HOWN.out (drewN_grown (r := none)) (.inr (by simp [Value.ownBlock]))) (drewN_grown (r := none)) (.inr (by simp [Value.ownBlock]))
      have HB5 : Hid (Below w.heap.size w ((W1.drewN m).drewN nq)) := below_drewN (below_drewN HB.out _) _
      have hz5 : w.heap.size ≤ ((W1.drewN m).drewN nq).heap.size := hbz
      generalize (W1.drewN m).drewN nq = W5 at *
      clear hr2 hbz2
      go_wp2_with (at_builtin; refine wpList_push2 _ rfl _ _ 127 rfl w.heap.size 31 iS (.slice none 0 0) 24 Tryz.underlying127 hiS hzS0 hzS1 hzS2 rfl (by decide) _ _ _ rfl HR5 _ _ rfl rfl (by have := hcnt.out; omega) hz5 ?_)
      intro v6 w6 hown6 hg6
      have HR6 : Hid (w6.ownsRow w.heap.size 31 1 v6 (segs ++ [(f, t)]).length ((segs ++ [(f, t)]).map (segV g))) := by
       rw [List.map_append, List.length_append]
       exact hown6
      have HO6 : Hid (w6.ownsRow w.heap.size 3 1 (.slice (some ⟨g, 0, none⟩) left.length lc) left.length (iv (nl left))) := own_grown HO5.out hg6 (own_types HO5.out HR5 (by decide))
      have HB6 : Hid (Below w.heap.size w w6) := HB5.out.grown hg6 hz5 fun q hq => (HR5.lt q hq).1
      have HOK6 : Hid (∀ ab ∈ segs ++ [(f, t)], ab.1 < ab.2 ∧ ab.2 ≤ left.length) := fun ab hab => by
       rcases List.mem_append.1 hab with h | h
       ·exact HOK.out ab h
       ·rw [List.mem_singleton.1 h]; exact ⟨hft, ht⟩
      have HG6 : Hid (GrpTo ls left R ((segs ++ [(f, t)]).map (segL left)) t) := by rw [List.map_append]; exact HG2.out
      clear hown6 hg6 HR5
      go_wp2
      go_roundg (left.length - t)
      case measure => omega
      case rel => exact ⟨t, segs ++ [(f, t)], ht, rfl, by go_num, by rw [List.length_append, List.length_singleton]; omega, HR6.out, HO6.out, HB6.out, HOK6.out, HG6.out⟩
  ·have hG0 := hG.done hlt
   obtain rfl : f = left.length := by omega
   have HR : Hid (RunsAt wr w.heap.size (.slice ra segs.length rc) g left segs) := by
    refine ⟨hrow, ?_, hok, fun hne => ?_, fun hne => ?_⟩
    ·by_cases h0 : 0 < left.length
     ·have := HGG.out h0
      subst this
      intro i hi
      rw [nl_length] at hi
      have h1 := own_icell hown i (by rw [nl_length]; exact hi)
      simpa using h1
     ·have : left = [] := List.length_eq_zero_iff.1 (by omega)
      rw [this]
      intro i hi
      simp [nl] at hi
    ·have h0 := List.length_pos_iff.2 hne
     have := HGG.out h0
     subst this
     obtain ⟨g', c', hv, hc, hlt, hB⟩ := own_some hown h0
     have e : g = g' := by have := hv; simp at this; exact this.1
     subst e
     exact ⟨hB, hlt⟩
    ·have := HGG.out (List.length_pos_iff.2 hne)
     subst this
     rcases hown.2 with ⟨e1, _⟩ | ⟨g', cap, cur, e1, _, hh, _⟩
     ·cases e1
     ·injection e1 with e2
      injection e2 with e3
      injection e3 with e4
      subst e4
      exact ⟨cur, hh⟩
   have HB : Hid (Below w.heap.size w wr) := hb
   have HE : Hid (segs.map (segL left) = R) := hG0
   have hlt' : ¬ (left.length : Int) < (left.length : Int) := by omega
   clear hrow hown hb hok hG hG0 hlt
   go_wp2
   go_ret
   exact ⟨_, rfl, g, segs, HR.out, HE.out, HB.out⟩
end Go.Proofs.YtkbinfhclaafhaaGreatDoor
namespace Go.Proofs.YtkbinfhclaafhaaGreatDoor
open Go.Maps
section
variable {P : Program} {w : World} {t k e : TypeId} {b clock : Nat} {es : Array MapEntry} {key val z : Value}
theorem run_store_new (ht : P.underlying t = some (.map k e)) (hb : w.heap[b]? = some (.map es clock)) (hc : (Instr.checkKey false 10000 k key).run P w = .ok () w) (hf : (Instr.findKey k key es.toList).run P w = .ok none w) :
  (Instr.mapUpdate t (.map (some b)) key val).run P w = .ok () (ChangeMaps.setBlock w b (.map (es.push ⟨key, val, clock⟩) (clock + 1))) := by
 simp [Instr.mapUpdate, run_underlying ht, MapKept.run_getObj_map hb, hc, hf, MapKept.run_setObj_map _ hb, Result.andThen, ChangeMaps.setBlock]
theorem run_look_none (c : Bool) (ht : P.underlying t = some (.map k e)) (hz : (zeroValue e).run P w = .ok z w) (hb : w.heap[b]? = some (.map es clock)) (hc : ∀ em, (Instr.checkKey em 10000 k key).run P w = .ok () w) (hf : (Instr.findKey k key es.toList).run P w = .ok none w) :
  (Instr.lookup t (.map (some b)) key c).run P w = .ok (if c then .tuple #[z, .bool false] else z) w := by
 simp [Instr.lookup, run_underlying ht, MapKept.run_getObj_map hb, hc, hf, hz, Result.andThen]
theorem run_look_some (c : Bool) {j : Nat} {v : Value} (ht : P.underlying t = some (.map k e)) (hb : w.heap[b]? = some (.map es clock)) (hc : ∀ em, (Instr.checkKey em 10000 k key).run P w = .ok () w) (hf : (Instr.findKey k key es.toList).run P w = .ok (some (j, v)) w) :
  (Instr.lookup t (.map (some b)) key c).run P w = .ok (if c then .tuple #[v, .bool true] else v) w := by
 simp [Instr.lookup, run_underlying ht, MapKept.run_getObj_map hb, hc, hf, Result.andThen]
theorem run_find_nil (w : World) (k : TypeId) (x : Value) (i : Nat) : (Instr.findAsking k x [] i).run P w = .ok none w := by
 simp [Instr.findAsking]
theorem run_find_cons {x : Value} {m : MapEntry} {r : List MapEntry} {q : Bool} (i : Nat) (h : (Op.equal k x m.key).run P w = .ok q w) :
  (Instr.findAsking k x (m :: r) i).run P w = if q = true then .ok (some (i, m.val)) w else (Instr.findAsking k x r (i + 1)).run P w := by
 cases q <;> simp [Instr.findAsking, h, Result.andThen]
theorem run_find_ints (hk : P.underlying k = some (.int .i64)) (a : Int) : ∀ (es : List MapEntry) (i : Nat), (∀ m ∈ es, ∃ x, m.key = .int .i64 x) → ∃ r, Instr.findNow (.int .i64) (.int .i64 a) es i = some r ∧ ((r = none ∧ ∀ m ∈ es, m.key ≠ .int .i64 a) ∨ ∃ j m, r = some (i + j, m.val) ∧ es[j]? = some m ∧ m.key = .int .i64 a ∧ ∀ j' m', j' < j → es[j']? = some m' → m'.key ≠ .int .i64 a)
 | [], i, _ => ⟨none, rfl, .inl ⟨rfl, by simp⟩⟩
 | m :: r, i, h => by
  obtain ⟨x, hx⟩ := h m (by simp)
  by_cases hxa : a = x
  ·refine ⟨some (i, m.val), by simp [Instr.findNow, hx, Instr.sameNow, hxa], .inr ⟨0, m, by simp, by simp, by rw [hx, hxa], fun j' _ hj' => by omega⟩⟩
  ·obtain ⟨q, hq, hr⟩ := run_find_ints hk a r (i + 1) (fun y hy => h y (by simp [hy]))
   have hne : (a == x) = false := by simpa using hxa
   refine ⟨q, by simp [Instr.findNow, hx, Instr.sameNow, hne, hq], ?_⟩
   rcases hr with ⟨h1, h2⟩ | ⟨j, y, h1, h2, h3, h4⟩
   ·refine .inl ⟨h1, fun y hy => ?_⟩
    rcases List.mem_cons.1 hy with rfl | hy
    ·rw [hx]; intro e; cases e; exact hxa rfl
    ·exact h2 y hy
   ·refine .inr ⟨j + 1, y, by rw [h1]; congr 2; omega, by simpa using h2, h3, ?_⟩
    intro j' m' hj' hm'
    cases j' with
    | zero => simp at hm'; subst hm'; rw [hx]; intro e; cases e; exact hxa rfl
    | succ j' => exact h4 j' m' (by omega) (by simpa using hm')
theorem run_check_int (hk : P.underlying k = some (.int .i64)) (w : World) (a : Int) (em : Bool) : (Instr.checkKey em 10000 k (.int .i64 a)).run P w = .ok () w := by
 unfold Instr.checkKey
 simp [run_underlying hk]
theorem run_findKey_ints (hk : P.underlying k = some (.int .i64)) (w : World) (a : Int) (es : List MapEntry) (h : ∀ m ∈ es, ∃ x, m.key = .int .i64 x) :
  ((Instr.findKey k (.int .i64 a) es).run P w = .ok none w ∧ ∀ m ∈ es, m.key ≠ .int .i64 a) ∨ ∃ j m, (Instr.findKey k (.int .i64 a) es).run P w = .ok (some (j, m.val)) w ∧ es[j]? = some m ∧ m.key = .int .i64 a := by
 obtain ⟨r, hr, h1⟩ := run_find_ints hk a es 0 h
 have e1 : (Instr.findKey k (.int .i64 a) es).run P w = .ok r w := by simp [Instr.findKey, run_underlying hk, hr]
 rcases h1 with ⟨rfl, h2⟩ | ⟨j, m, rfl, h2, h3, _⟩
 ·exact .inl ⟨e1, h2⟩
 ·exact .inr ⟨j, m, by simpa using e1, h2, h3⟩
end
end Go.Proofs.YtkbinfhclaafhaaGreatDoor
namespace Go.Proofs.YtkbinfhclaafhaaGreatDoor
open Go.RowKit
structure SqC (w : World) (B sb gc n cc : Nat) (pv rv bv : Value) (lev sos eos : Int) (t : List Int) : Prop where
 cell : w.heap[sb]? = some (.cells #[pv, rv, .slice (some ⟨gc, 0, none⟩) n cc, bv, .int .i64 lev, .int .i64 sos, .int .i64 eos] 220 (0, 0))
 row : w.ownsRow B 108 1 (.slice (some ⟨gc, 0, none⟩) n cc) n (iv t)
section
variable {w w' : World} {B sb gc n cc : Nat} {pv rv bv : Value} {lev sos eos : Int} {t : List Int}
theorem SqC.len (h : SqC w B sb gc n cc pv rv bv lev sos eos t) : t.length = n := by have := h.row.1; simpa [iv] using this
theorem SqC.ne (h : SqC w B sb gc n cc pv rv bv lev sos eos t) : sb ≠ gc := by
 rcases h.row.2 with ⟨e, _⟩ | ⟨g, cp, cur, e, _, hh, _⟩
 ·cases e
 ·injection e with e1
  injection e1 with e4
  injection e4 with e5
  subst e5
  intro e
  have := h.cell
  rw [e, hh] at this
  simp at this
theorem SqC.at (h : SqC w B sb gc n cc pv rv bv lev sos eos t) (k : Nat) (hk : k < n) : w.cell? ⟨gc, k, none⟩ = some (.int .i64 (t.getD k 0)) := own_icell h.row k (by rw [h.len]; exact hk)
theorem SqC.frozen (h : SqC w B sb gc n cc pv rv bv lev sos eos t) (k : Nat) : w.frozen? ⟨gc, k, none⟩ = false := World.ownsRow.frozenAt h.row k
theorem SqC.f2 (h : SqC w B sb gc n cc pv rv bv lev sos eos t) : w.cell? ⟨sb, 2, none⟩ = some (.slice (some ⟨gc, 0, none⟩) n cc) := heap_cell h.cell 2
theorem SqC.f4 (h : SqC w B sb gc n cc pv rv bv lev sos eos t) : w.cell? ⟨sb, 4, none⟩ = some (.int .i64 lev) := heap_cell h.cell 4
theorem SqC.f5 (h : SqC w B sb gc n cc pv rv bv lev sos eos t) : w.cell? ⟨sb, 5, none⟩ = some (.int .i64 sos) := heap_cell h.cell 5
theorem SqC.f6 (h : SqC w B sb gc n cc pv rv bv lev sos eos t) : w.cell? ⟨sb, 6, none⟩ = some (.int .i64 eos) := heap_cell h.cell 6
theorem SqC.set (h : SqC w B sb gc n cc pv rv bv lev sos eos t) (k : Nat) (a : Int) : SqC (w.setCell ⟨gc, k, none⟩ (.int .i64 a)) B sb gc n cc pv rv bv lev sos eos (t.set k a) :=
 ⟨by rw [Below.heap_setCell _ _ _ _ h.ne]; exact h.cell, by rw [← iv_set]; exact (World.ownsRow.stored h.row k (.int .i64 a)).1⟩
theorem SqC.grown (h : SqC w B sb gc n cc pv rv bv lev sos eos t) (k : Nat) (a : Int) : w.grownBy (w.setCell ⟨gc, k, none⟩ (.int .i64 a)) (some gc) := (World.ownsRow.stored h.row k (.int .i64 a)).2
theorem SqC.below (h : SqC w B sb gc n cc pv rv bv lev sos eos t) (hb : Below w.heap.size w w') : SqC w' B sb gc n cc pv rv bv lev sos eos t := ⟨heap_keep hb h.cell, own_below h.row hb⟩
end
def atP (sos eos : Int) (t : List Int) (j : Int) : Int := if j < 0 then sos else if (t.length : Int) ≤ j then eos else t.getD j.toNat 0
set_option maxRecDepth 100000 in
set_option maxHeartbeats 2000000 in
theorem at_any (w : World) (B sb gc n cc : Nat) (pv rv bv : Value) (lev sos eos : Int) (t : List Int) (h : SqC w B sb gc n cc pv rv bv lev sos eos t) (j : Int) :
  Calls Tryz.prog 207 #[.pointer (some ⟨sb, 0, none⟩), .int .i64 j] w fun e w' => e = .returned (.int .i64 (atP sos eos t j)) ∧ w' = w := by
 have a2 := h.f2
 have a5 := h.f5
 have a6 := h.f6
 unfold atP
 rw [h.len]
 by_cases h0 : j < 0
 ·rw [if_pos h0]
  clear h
  go_enter Tryz.func207, Tryz.ntmps207
  go_wp2
  go_ret
  exact ⟨rfl, rfl⟩
 ·rw [if_neg h0]
  by_cases h1 : (n : Int) ≤ j
  ·rw [if_pos h1]
   clear h
   go_enter Tryz.func207, Tryz.ntmps207
   go_wp2
   go_ret
   exact ⟨rfl, rfl⟩
  ·rw [if_neg h1]
   obtain ⟨k, rfl⟩ : ∃ k : Nat, j = k := ⟨j.toNat, by omega⟩
   have hk : k < n := by omega
   have ak := h.at k hk
   rw [Int.toNat_natCast]
   clear h
   generalize t.getD k 0 = c at *
   go_enter Tryz.func207, Tryz.ntmps207
   go_wp2
   go_ret
   exact ⟨rfl, rfl⟩
def f2 (s c : Int) (_ : List Int) : Int := if c = 3 ∧ s = 2 then 6 else c
def g2 (s c : Int) (_ : List Int) : Int := if c = 0 ∨ c = 1 ∨ c = 2 then c else s
theorem pass2_num : ∀ (t : List Int) (s : Int), pass f2 g2 s t = numL 2 6 s t
 | [], _ => rfl
 | c :: r, s => by
  rw [pass, numL, pass2_num r, f2, g2]
  by_cases h : c = 0 ∨ c = 1 ∨ c = 2
  ·rw [if_pos h, if_neg (by omega), if_neg (by omega)]
  ·rw [if_neg h]
def f7 (s c : Int) (_ : List Int) : Int := if c = 3 ∧ s = 0 then 0 else c
def g7 (s c : Int) (_ : List Int) : Int := if c = 0 ∨ c = 1 then c else s
theorem pass7_num : ∀ (t : List Int) (s : Int), pass f7 g7 s t = num7 s t
 | [], _ => rfl
 | c :: r, s => by
  rw [pass, num7, pass7_num r, f7, g7]
  by_cases h : c = 0 ∨ c = 1
  ·rw [if_pos h, if_pos h, if_neg (by omega)]
  ·rw [if_neg h, if_neg h]
def fn2 (e : Int) (_ : Unit) (c : Int) (_ : List Int) : Int := n2F e c
theorem passn2_map (e : Int) : ∀ t : List Int, pass (fn2 e) g3 () t = t.map (n2F e)
 | [] => rfl
 | c :: r => by rw [pass, List.map_cons, passn2_map e r]; rfl
set_option maxRecDepth 100000 in
set_option maxHeartbeats 8000000 in
theorem w3_row (w : World) (B sb gc n cc : Nat) (pv rv bv : Value) (lev sos eos : Int) (t : List Int) (h : SqC w B sb gc n cc pv rv bv lev sos eos t) (hn : n ≤ 1000) :
  Calls Tryz.prog 146 #[.pointer (some ⟨sb, 0, none⟩)] w fun e w' => e = .returned (.tuple #[]) ∧ SqC w' B sb gc n cc pv rv bv lev sos eos (pass f3 g3 () t) ∧ w.grownBy w' (some gc) := by
 have HS0 : Hid (SqC w B sb gc n cc pv rv bv lev sos eos t) := h
 have HL : Hid (t.length = n) := h.len
 have c2 := h.f2
 have c5 := h.f5
 clear h
 go_enter Tryz.func146, Tryz.ntmps146
 go_wp2
 clear c2 c5
 go_loopg [9] n (fun gk iv wr => ∃ (k : Nat) (s : Unit) (t' : List Int), k ≤ n ∧ gk = n - k ∧ iv = .int .i64 k ∧ SqC wr B sb gc n cc pv rv bv lev sos eos t' ∧ w.grownBy wr (some gc) ∧ PassTo f3 g3 () t k s t')
 case atStart => exact ⟨0, (), t, by omega, rfl, rfl, HS0.out, World.grownBy.refl _ _, PassTo.start _ _ _ _⟩
 case round =>
  clear HS0
  obtain ⟨k, s, t', hk, rfl, rfl, hS, hG, hN⟩ := hrel
  by_cases hlt : k < n
  ·have hlt' : k < t.length := by rw [HL.out]; exact hlt
   have hcell := hS.at k hlt
   rw [hN.at k (Nat.le_refl _)] at hcell
   have hfr := hS.frozen k
   have c2 := hS.f2
   have hkn : (k : Int) < (n : Int) := by omega
   have HS : Hid (SqC wr B sb gc n cc pv rv bv lev sos eos t') := hS
   have HG : Hid (w.grownBy wr (some gc)) := hG
   have keyStay : ∀ s', t.getD k 0 = f3 s (t.getD k 0) (t.drop (k + 1)) → s' = g3 s (t.getD k 0) (t.drop (k + 1)) → Hid (PassTo f3 g3 () t (k + 1) s' t') := fun s' h1 h2 => hN.stay hlt' s' h1 h2
   have keySet : ∀ v s', v = f3 s (t.getD k 0) (t.drop (k + 1)) → s' = g3 s (t.getD k 0) (t.drop (k + 1)) → Hid (PassTo f3 g3 () t (k + 1) s' (t'.set k v)) := fun v s' h1 h2 => hN.step hlt' v s' h1 h2
   have htl : t'.length = n := hS.len
   clear hS hG hN
   generalize t.drop (k + 1) = rest at *
   generalize t.getD k 0 = c at *
   by_cases h2 : c = 2
   ·subst h2
    have HK := keySet 1 () rfl rfl
    clear keyStay keySet
    go_wp2
    go_roundg (n - (k + 1))
    case measure => omega
    case rel => exact ⟨k + 1, (), _, by omega, rfl, by go_num, HS.out.set k 1, HG.out.trans (HS.out.grown k 1), HK.out⟩
   ·have q2 : (c == 2) = false := by simpa using h2
    have HK := keyStay () (f3_not h2).symm rfl
    clear keyStay keySet
    go_wp2
    go_roundg (n - (k + 1))
    case measure => omega
    case rel => exact ⟨k + 1, (), _, by omega, rfl, by go_num, HS.out, HG.out, HK.out⟩
  ·have hpe : t' = pass f3 g3 () t := hN.stop (by rw [HL.out]; exact hlt)
   have HS : Hid (SqC wr B sb gc n cc pv rv bv lev sos eos (pass f3 g3 () t)) := by rw [← hpe]; exact hS
   have HG : Hid (w.grownBy wr (some gc)) := hG
   have hkn : ¬ (k : Int) < (n : Int) := by omega
   clear hS hG hN hpe
   go_wp2
   go_end0
   exact ⟨rfl, HS.out, HG.out⟩
set_option maxRecDepth 100000 in
set_option maxHeartbeats 8000000 in
theorem w6_row (w : World) (B sb gc n cc : Nat) (pv rv bv : Value) (lev sos eos : Int) (t : List Int) (h : SqC w B sb gc n cc pv rv bv lev sos eos t) (hn : n ≤ 1000) :
  Calls Tryz.prog 149 #[.pointer (some ⟨sb, 0, none⟩)] w fun e w' => e = .returned (.tuple #[]) ∧ SqC w' B sb gc n cc pv rv bv lev sos eos (pass f6 g3 () t) ∧ w.grownBy w' (some gc) := by
 have HS0 : Hid (SqC w B sb gc n cc pv rv bv lev sos eos t) := h
 have HL : Hid (t.length = n) := h.len
 have c2 := h.f2
 have c5 := h.f5
 clear h
 go_enter Tryz.func149, Tryz.ntmps149
 go_wp2
 clear c2 c5
 go_loopg [9] n (fun gk iv wr => ∃ (k : Nat) (s : Unit) (t' : List Int), k ≤ n ∧ gk = n - k ∧ iv = .int .i64 k ∧ SqC wr B sb gc n cc pv rv bv lev sos eos t' ∧ w.grownBy wr (some gc) ∧ PassTo f6 g3 () t k s t')
 case atStart => exact ⟨0, (), t, by omega, rfl, rfl, HS0.out, World.grownBy.refl _ _, PassTo.start _ _ _ _⟩
 case round =>
  clear HS0
  obtain ⟨k, s, t', hk, rfl, rfl, hS, hG, hN⟩ := hrel
  by_cases hlt : k < n
  ·have hlt' : k < t.length := by rw [HL.out]; exact hlt
   have hcell := hS.at k hlt
   rw [hN.at k (Nat.le_refl _)] at hcell
   have hfr := hS.frozen k
   have c2 := hS.f2
   have hkn : (k : Int) < (n : Int) := by omega
   have HS : Hid (SqC wr B sb gc n cc pv rv bv lev sos eos t') := hS
   have HG : Hid (w.grownBy wr (some gc)) := hG
   have keyStay : ∀ s', t.getD k 0 = f6 s (t.getD k 0) (t.drop (k + 1)) → s' = g3 s (t.getD k 0) (t.drop (k + 1)) → Hid (PassTo f6 g3 () t (k + 1) s' t') := fun s' h1 h2 => hN.stay hlt' s' h1 h2
   have keySet : ∀ v s', v = f6 s (t.getD k 0) (t.drop (k + 1)) → s' = g3 s (t.getD k 0) (t.drop (k + 1)) → Hid (PassTo f6 g3 () t (k + 1) s' (t'.set k v)) := fun v s' h1 h2 => hN.step hlt' v s' h1 h2
   have htl : t'.length = n := hS.len
   clear hS hG hN
   generalize t.drop (k + 1) = rest at *
   generalize t.getD k 0 = c at *
   by_cases h4 : c = 4
   ·subst h4
    have HK := keySet 12 () rfl rfl
    clear keyStay keySet
    go_wp2
    go_roundg (n - (k + 1))
    case measure => omega
    case rel => exact ⟨k + 1, (), _, by omega, rfl, by go_num, HS.out.set k 12, HG.out.trans (HS.out.grown k 12), HK.out⟩
   have q4 : (c == 4) = false := by simpa using h4
   by_cases h5 : c = 5
   ·subst h5
    have HK := keySet 12 () rfl rfl
    clear keyStay keySet
    go_wp2
    go_roundg (n - (k + 1))
    case measure => omega
    case rel => exact ⟨k + 1, (), _, by omega, rfl, by go_num, HS.out.set k 12, HG.out.trans (HS.out.grown k 12), HK.out⟩
   have q5 : (c == 5) = false := by simpa using h5
   by_cases h7 : c = 7
   ·subst h7
    have HK := keySet 12 () rfl rfl
    clear keyStay keySet
    go_wp2
    go_roundg (n - (k + 1))
    case measure => omega
    case rel => exact ⟨k + 1, (), _, by omega, rfl, by go_num, HS.out.set k 12, HG.out.trans (HS.out.grown k 12), HK.out⟩
   have q7 : (c == 7) = false := by simpa using h7
   have HK := keyStay () (f6_not (by omega)).symm rfl
   clear keyStay keySet
   go_wp2
   go_roundg (n - (k + 1))
   case measure => omega
   case rel => exact ⟨k + 1, (), _, by omega, rfl, by go_num, HS.out, HG.out, HK.out⟩
  ·have hpe : t' = pass f6 g3 () t := hN.stop (by rw [HL.out]; exact hlt)
   have HS : Hid (SqC wr B sb gc n cc pv rv bv lev sos eos (pass f6 g3 () t)) := by rw [← hpe]; exact hS
   have HG : Hid (w.grownBy wr (some gc)) := hG
   have hkn : ¬ (k : Int) < (n : Int) := by omega
   clear hS hG hN hpe
   go_wp2
   go_end0
   exact ⟨rfl, HS.out, HG.out⟩
set_option maxRecDepth 100000 in
set_option maxHeartbeats 8000000 in
theorem w2_row (w : World) (B sb gc n cc : Nat) (pv rv bv : Value) (lev sos eos : Int) (t : List Int) (h : SqC w B sb gc n cc pv rv bv lev sos eos t) (hn : n ≤ 1000) :
  Calls Tryz.prog 145 #[.pointer (some ⟨sb, 0, none⟩)] w fun e w' => e = .returned (.tuple #[]) ∧ SqC w' B sb gc n cc pv rv bv lev sos eos (pass f2 g2 sos t) ∧ w.grownBy w' (some gc) := by
 have HS0 : Hid (SqC w B sb gc n cc pv rv bv lev sos eos t) := h
 have HL : Hid (t.length = n) := h.len
 have c2 := h.f2
 have c5 := h.f5
 clear h
 go_enter Tryz.func145, Tryz.ntmps145
 go_wp2
 clear c2 c5
 go_loopg [2, 14] n (fun gk sv iv wr => ∃ (k : Nat) (s : Int) (t' : List Int), k ≤ n ∧ gk = n - k ∧ sv = .int .i64 s ∧ iv = .int .i64 k ∧ SqC wr B sb gc n cc pv rv bv lev sos eos t' ∧ w.grownBy wr (some gc) ∧ PassTo f2 g2 sos t k s t')
 case atStart => exact ⟨0, sos, t, by omega, rfl, rfl, rfl, HS0.out, World.grownBy.refl _ _, PassTo.start _ _ _ _⟩
 case round =>
  clear HS0
  obtain ⟨k, s, t', hk, rfl, rfl, rfl, hS, hG, hN⟩ := hrel
  by_cases hlt : k < n
  ·have hlt' : k < t.length := by rw [HL.out]; exact hlt
   have hcell := hS.at k hlt
   rw [hN.at k (Nat.le_refl _)] at hcell
   have hfr := hS.frozen k
   have c2 := hS.f2
   have hkn : (k : Int) < (n : Int) := by omega
   have HS : Hid (SqC wr B sb gc n cc pv rv bv lev sos eos t') := hS
   have HG : Hid (w.grownBy wr (some gc)) := hG
   have keyStay : ∀ s', t.getD k 0 = f2 s (t.getD k 0) (t.drop (k + 1)) → s' = g2 s (t.getD k 0) (t.drop (k + 1)) → Hid (PassTo f2 g2 sos t (k + 1) s' t') := fun s' h1 h2 => hN.stay hlt' s' h1 h2
   have keySet : ∀ v s', v = f2 s (t.getD k 0) (t.drop (k + 1)) → s' = g2 s (t.getD k 0) (t.drop (k + 1)) → Hid (PassTo f2 g2 sos t (k + 1) s' (t'.set k v)) := fun v s' h1 h2 => hN.step hlt' v s' h1 h2
   have htl : t'.length = n := hS.len
   clear hS hG hN
   generalize t.drop (k + 1) = rest at *
   generalize t.getD k 0 = c at *
   by_cases h0 : c = 0
   ·subst h0
    have HK := keyStay 0 rfl rfl
    clear keyStay keySet
    go_wp2
    go_roundg (n - (k + 1))
    case measure => omega
    case rel => exact ⟨k + 1, 0, _, by omega, rfl, rfl, by go_num, HS.out, HG.out, HK.out⟩
   have q0 : (c == 0) = false := by simpa using h0
   by_cases h1 : c = 1
   ·subst h1
    have HK := keyStay 1 rfl rfl
    clear keyStay keySet
    go_wp2
    go_roundg (n - (k + 1))
    case measure => omega
    case rel => exact ⟨k + 1, 1, _, by omega, rfl, rfl, by go_num, HS.out, HG.out, HK.out⟩
   have q1 : (c == 1) = false := by simpa using h1
   by_cases h2 : c = 2
   ·subst h2
    have HK := keyStay 2 rfl rfl
    clear keyStay keySet
    go_wp2
    go_roundg (n - (k + 1))
    case measure => omega
    case rel => exact ⟨k + 1, 2, _, by omega, rfl, rfl, by go_num, HS.out, HG.out, HK.out⟩
   have q2 : (c == 2) = false := by simpa using h2
   have hg : g2 s c rest = s := by rw [g2, if_neg (by omega)]
   by_cases h3 : c = 3
   ·subst h3
    by_cases hs : s = 2
    ·subst hs
     have HK := keySet 6 2 rfl rfl
     clear keyStay keySet
     go_wp2
     go_roundg (n - (k + 1))
     case measure => omega
     case rel => exact ⟨k + 1, 2, _, by omega, rfl, rfl, by go_num, HS.out.set k 6, HG.out.trans (HS.out.grown k 6), HK.out⟩
    ·have hs' : (s == 2) = false := by simpa using hs
     have HK := keyStay s (by rw [f2, if_neg (by omega)]) hg.symm
     clear keyStay keySet
     go_wp2
     go_roundg (n - (k + 1))
     case measure => omega
     case rel => exact ⟨k + 1, s, _, by omega, rfl, rfl, by go_num, HS.out, HG.out, HK.out⟩
   ·have q3 : (c == 3) = false := by simpa using h3
    have HK := keyStay s (by rw [f2, if_neg (by omega)]) hg.symm
    clear keyStay keySet
    go_wp2
    go_roundg (n - (k + 1))
    case measure => omega
    case rel => exact ⟨k + 1, s, _, by omega, rfl, rfl, by go_num, HS.out, HG.out, HK.out⟩
  ·have hpe : t' = pass f2 g2 sos t := hN.stop (by rw [HL.out]; exact hlt)
   have HS : Hid (SqC wr B sb gc n cc pv rv bv lev sos eos (pass f2 g2 sos t)) := by rw [← hpe]; exact hS
   have HG : Hid (w.grownBy wr (some gc)) := hG
   have hkn : ¬ (k : Int) < (n : Int) := by omega
   clear hS hG hN hpe
   go_wp2
   go_end0
   exact ⟨rfl, HS.out, HG.out⟩
set_option maxRecDepth 100000 in
set_option maxHeartbeats 8000000 in
theorem w7_row (w : World) (B sb gc n cc : Nat) (pv rv bv : Value) (lev sos eos : Int) (t : List Int) (h : SqC w B sb gc n cc pv rv bv lev sos eos t) (hn : n ≤ 1000) :
  Calls Tryz.prog 150 #[.pointer (some ⟨sb, 0, none⟩)] w fun e w' => e = .returned (.tuple #[]) ∧ SqC w' B sb gc n cc pv rv bv lev sos eos (pass f7 g7 sos t) ∧ w.grownBy w' (some gc) := by
 have HS0 : Hid (SqC w B sb gc n cc pv rv bv lev sos eos t) := h
 have HL : Hid (t.length = n) := h.len
 have c2 := h.f2
 have c5 := h.f5
 clear h
 go_enter Tryz.func150, Tryz.ntmps150
 go_wp2
 clear c2 c5
 go_loopg [2, 14] n (fun gk sv iv wr => ∃ (k : Nat) (s : Int) (t' : List Int), k ≤ n ∧ gk = n - k ∧ sv = .int .i64 s ∧ iv = .int .i64 k ∧ SqC wr B sb gc n cc pv rv bv lev sos eos t' ∧ w.grownBy wr (some gc) ∧ PassTo f7 g7 sos t k s t')
 case atStart => exact ⟨0, sos, t, by omega, rfl, rfl, rfl, HS0.out, World.grownBy.refl _ _, PassTo.start _ _ _ _⟩
 case round =>
  clear HS0
  obtain ⟨k, s, t', hk, rfl, rfl, rfl, hS, hG, hN⟩ := hrel
  by_cases hlt : k < n
  ·have hlt' : k < t.length := by rw [HL.out]; exact hlt
   have hcell := hS.at k hlt
   rw [hN.at k (Nat.le_refl _)] at hcell
   have hfr := hS.frozen k
   have c2 := hS.f2
   have hkn : (k : Int) < (n : Int) := by omega
   have HS : Hid (SqC wr B sb gc n cc pv rv bv lev sos eos t') := hS
   have HG : Hid (w.grownBy wr (some gc)) := hG
   have keyStay : ∀ s', t.getD k 0 = f7 s (t.getD k 0) (t.drop (k + 1)) → s' = g7 s (t.getD k 0) (t.drop (k + 1)) → Hid (PassTo f7 g7 sos t (k + 1) s' t') := fun s' h1 h2 => hN.stay hlt' s' h1 h2
   have keySet : ∀ v s', v = f7 s (t.getD k 0) (t.drop (k + 1)) → s' = g7 s (t.getD k 0) (t.drop (k + 1)) → Hid (PassTo f7 g7 sos t (k + 1) s' (t'.set k v)) := fun v s' h1 h2 => hN.step hlt' v s' h1 h2
   have htl : t'.length = n := hS.len
   clear hS hG hN
   generalize t.drop (k + 1) = rest at *
   generalize t.getD k 0 = c at *
   by_cases h0 : c = 0
   ·subst h0
    have HK := keyStay 0 rfl rfl
    clear keyStay keySet
    go_wp2
    go_roundg (n - (k + 1))
    case measure => omega
    case rel => exact ⟨k + 1, 0, _, by omega, rfl, rfl, by go_num, HS.out, HG.out, HK.out⟩
   have q0 : (c == 0) = false := by simpa using h0
   by_cases h1 : c = 1
   ·subst h1
    have HK := keyStay 1 rfl rfl
    clear keyStay keySet
    go_wp2
    go_roundg (n - (k + 1))
    case measure => omega
    case rel => exact ⟨k + 1, 1, _, by omega, rfl, rfl, by go_num, HS.out, HG.out, HK.out⟩
   have q1 : (c == 1) = false := by simpa using h1
   have hg : g7 s c rest = s := by rw [g7, if_neg (by omega)]
   by_cases h3 : c = 3
   ·subst h3
    by_cases hs : s = 0
    ·subst hs
     have HK := keySet 0 0 rfl rfl
     clear keyStay keySet
     go_wp2
     go_roundg (n - (k + 1))
     case measure => omega
     case rel => exact ⟨k + 1, 0, _, by omega, rfl, rfl, by go_num, HS.out.set k 0, HG.out.trans (HS.out.grown k 0), HK.out⟩
    ·have hs' : (s == 0) = false := by simpa using hs
     have HK := keyStay s (by rw [f7, if_neg (by omega)]) hg.symm
     clear keyStay keySet
     go_wp2
     go_roundg (n - (k + 1))
     case measure => omega
     case rel => exact ⟨k + 1, s, _, by omega, rfl, rfl, by go_num, HS.out, HG.out, HK.out⟩
   ·have q3 : (c == 3) = false := by simpa using h3
    have HK := keyStay s (by rw [f7, if_neg (by omega)]) hg.symm
    clear keyStay keySet
    go_wp2
    go_roundg (n - (k + 1))
    case measure => omega
    case rel => exact ⟨k + 1, s, _, by omega, rfl, rfl, by go_num, HS.out, HG.out, HK.out⟩
  ·have hpe : t' = pass f7 g7 sos t := hN.stop (by rw [HL.out]; exact hlt)
   have HS : Hid (SqC wr B sb gc n cc pv rv bv lev sos eos (pass f7 g7 sos t)) := by rw [← hpe]; exact hS
   have HG : Hid (w.grownBy wr (some gc)) := hG
   have hkn : ¬ (k : Int) < (n : Int) := by omega
   clear hS hG hN hpe
   go_wp2
   go_end0
   exact ⟨rfl, HS.out, HG.out⟩
set_option maxRecDepth 100000 in
set_option maxHeartbeats 8000000 in
theorem n2_row (w : World) (B sb gc n cc : Nat) (pv rv bv : Value) (lev sos eos : Int) (t : List Int) (h : SqC w B sb gc n cc pv rv bv lev sos eos t) (hn : n ≤ 1000) (hlev : 0 ≤ lev) :
  Calls Tryz.prog 153 #[.pointer (some ⟨sb, 0, none⟩)] w fun e w' => e = .returned (.tuple #[]) ∧ SqC w' B sb gc n cc pv rv bv lev sos eos (pass (fn2 (lev % 2)) g3 () t) ∧ w.grownBy w' (some gc) := by
 have HS0 : Hid (SqC w B sb gc n cc pv rv bv lev sos eos t) := h
 have HL : Hid (t.length = n) := h.len
 have c2 := h.f2
 have c5 := h.f5
 clear h
 go_enter Tryz.func153, Tryz.ntmps153
 go_wp2
 clear c2 c5
 go_loopg [9] n (fun gk iv wr => ∃ (k : Nat) (s : Unit) (t' : List Int), k ≤ n ∧ gk = n - k ∧ iv = .int .i64 k ∧ SqC wr B sb gc n cc pv rv bv lev sos eos t' ∧ w.grownBy wr (some gc) ∧ PassTo (fn2 (lev % 2)) g3 () t k s t')
 case atStart => exact ⟨0, (), t, by omega, rfl, rfl, HS0.out, World.grownBy.refl _ _, PassTo.start _ _ _ _⟩
 case round =>
  clear HS0
  obtain ⟨k, s, t', hk, rfl, rfl, hS, hG, hN⟩ := hrel
  by_cases hlt : k < n
  ·have hlt' : k < t.length := by rw [HL.out]; exact hlt
   have hcell := hS.at k hlt
   rw [hN.at k (Nat.le_refl _)] at hcell
   have hfr := hS.frozen k
   have c2 := hS.f2
   have hkn : (k : Int) < (n : Int) := by omega
   have HS : Hid (SqC wr B sb gc n cc pv rv bv lev sos eos t') := hS
   have HG : Hid (w.grownBy wr (some gc)) := hG
   have keyStay : ∀ s', t.getD k 0 = (fn2 (lev % 2)) s (t.getD k 0) (t.drop (k + 1)) → s' = g3 s (t.getD k 0) (t.drop (k + 1)) → Hid (PassTo (fn2 (lev % 2)) g3 () t (k + 1) s' t') := fun s' h1 h2 => hN.stay hlt' s' h1 h2
   have keySet : ∀ v s', v = (fn2 (lev % 2)) s (t.getD k 0) (t.drop (k + 1)) → s' = g3 s (t.getD k 0) (t.drop (k + 1)) → Hid (PassTo (fn2 (lev % 2)) g3 () t (k + 1) s' (t'.set k v)) := fun v s' h1 h2 => hN.step hlt' v s' h1 h2
   have htl : t'.length = n := hS.len
   clear hS hG hN
   generalize t.drop (k + 1) = rest at *
   generalize t.getD k 0 = c at *
   have c4 := HS.out.f4
   cases hb : neutB c
   ·have HB : Hid (neutB c = false) := hb
    have HK := keyStay () (by rw [fn2, n2F, if_neg (by rw [hb]; decide)]) rfl
    clear keyStay keySet hb
    go_wp2_with fail
    refine (bneutral_any c _).mono ?_
    rintro ev wx ⟨rfl, hx⟩
    have hx' := hx.symm
    subst hx'
    rw [HB.out]
    go_wp2
    go_roundg (n - (k + 1))
    case measure => omega
    case rel => exact ⟨k + 1, (), _, by omega, rfl, by go_num, HS.out, HG.out, HK.out⟩
   ·have HB : Hid (neutB c = true) := hb
    have HK := keySet (lev % 2) () (by rw [fn2, n2F, if_pos hb]) rfl
    clear keyStay keySet hb
    go_wp2_with fail
    refine (bneutral_any c _).mono ?_
    rintro ev wx ⟨rfl, hx⟩
    have hx' := hx.symm
    subst hx'
    rw [HB.out]
    go_wp2_with fail
    go_region_with (go_at_call 96; refine (sideOf_any lev _ hlev).mono ?_; rintro ev wx ⟨rfl, hx⟩; subst hx)
    all_goals
     go_wp2
     go_roundg (n - (k + 1))
     case measure => omega
     case rel => exact ⟨k + 1, (), _, by omega, rfl, by go_num, (HS.out.below (Below.refl _ _).drew).set k (lev % 2), (HG.out.trans drew_grown).trans ((HS.out.below (Below.refl _ _).drew).grown k (lev % 2)), HK.out⟩
  ·have hpe : t' = pass (fn2 (lev % 2)) g3 () t := hN.stop (by rw [HL.out]; exact hlt)
   have HS : Hid (SqC wr B sb gc n cc pv rv bv lev sos eos (pass (fn2 (lev % 2)) g3 () t)) := by rw [← hpe]; exact hS
   have HG : Hid (w.grownBy wr (some gc)) := hG
   have hkn : ¬ (k : Int) < (n : Int) := by omega
   clear hS hG hN hpe
   go_wp2
   go_end0
   exact ⟨rfl, HS.out, HG.out⟩
set_option maxRecDepth 100000 in
set_option maxHeartbeats 8000000 in
theorem w1_row (w : World) (B sb gc n cc : Nat) (pv rv bv : Value) (lev sos eos : Int) (t : List Int) (h : SqC w B sb gc n cc pv rv bv lev sos eos t) (hn : n ≤ 1000) (hso : sos = 0 ∨ sos = 1) :
  Calls Tryz.prog 144 #[.pointer (some ⟨sb, 0, none⟩)] w fun e w' => e = .returned (.tuple #[]) ∧ SqC w' B sb gc n cc pv rv bv lev sos eos (pass (f1 sos) (g1 sos) none t) ∧ w.grownBy w' (some gc) := by
 have HS0 : Hid (SqC w B sb gc n cc pv rv bv lev sos eos t) := h
 have HL : Hid (t.length = n) := h.len
 have c2 := h.f2
 have c5 := h.f5
 clear h
 go_enter Tryz.func144, Tryz.ntmps144
 go_wp2
 clear c2 c5
 go_loopg [10] n (fun gk iv wr => ∃ (k : Nat) (s : Option Int) (t' : List Int), k ≤ n ∧ gk = n - k ∧ iv = .int .i64 k ∧ SqC wr B sb gc n cc pv rv bv lev sos eos t' ∧ w.grownBy wr (some gc) ∧ PassTo (f1 sos) (g1 sos) none t k s t' ∧ Ahead t' k s)
 case atStart => exact ⟨0, none, t, by omega, rfl, rfl, HS0.out, World.grownBy.refl _ _, PassTo.start _ _ _ _, Ahead.start _⟩
 case round =>
  clear HS0
  obtain ⟨k, s, t', hk, rfl, rfl, hS, hG, hN, hA⟩ := hrel
  by_cases hlt : k < n
  ·have hlt' : k < t.length := by rw [HL.out]; exact hlt
   have hcell := hS.at k hlt
   rw [hN.at k (Nat.le_refl _)] at hcell
   have hfr := hS.frozen k
   have c2 := hS.f2
   have hkn : (k : Int) < (n : Int) := by omega
   have HS : Hid (SqC wr B sb gc n cc pv rv bv lev sos eos t') := hS
   have HG : Hid (w.grownBy wr (some gc)) := hG
   have keyStay : ∀ s', t.getD k 0 = (f1 sos) s (t.getD k 0) (t.drop (k + 1)) → s' = (g1 sos) s (t.getD k 0) (t.drop (k + 1)) → Hid (PassTo (f1 sos) (g1 sos) none t (k + 1) s' t') := fun s' h1 h2 => hN.stay hlt' s' h1 h2
   have keySet : ∀ v s', v = (f1 sos) s (t.getD k 0) (t.drop (k + 1)) → s' = (g1 sos) s (t.getD k 0) (t.drop (k + 1)) → Hid (PassTo (f1 sos) (g1 sos) none t (k + 1) s' (t'.set k v)) := fun v s' h1 h2 => hN.step hlt' v s' h1 h2
   have htl : t'.length = n := hS.len
   have hat : atP sos eos t' ((k : Int) - 1) = s.getD sos := by
    rcases hA with ⟨rfl, rfl⟩ | ⟨h0, rfl⟩
    ·rfl
    ·rw [atP, if_neg (by omega), if_neg (by rw [hS.len]; omega), show ((k : Int) - 1).toNat = k - 1 by omega]; rfl
   have hset : ∀ v, Ahead (t'.set k v) (k + 1) (some v) := fun v => Ahead.set v (by rw [hS.len]; exact hlt)
   have hsty : Ahead t' (k + 1) (some (t.getD k 0)) := by have := Ahead.stay (t' := t') (k := k); rw [hN.at k (Nat.le_refl _)] at this; exact this
   have HAt : Hid (Calls Tryz.prog 207 #[.pointer (some ⟨sb, 0, none⟩), .int .i64 ((k : Int) - 1)] wr fun e w' => e = .returned (.int .i64 (s.getD sos)) ∧ w' = wr) := by rw [← hat]; exact at_any wr B sb gc n cc pv rv bv lev sos eos t' hS _
   clear hat hA
   clear hS hG hN
   generalize t.drop (k + 1) = rest at *
   generalize t.getD k 0 = c at *
   by_cases h8 : c = 8
   ·subst h8
    obtain ⟨a, ha⟩ : ∃ a, a = (s.getD sos) := ⟨_, rfl⟩
    rw [← ha] at HAt
    have hv : f1 sos s 8 rest = if isoB a = true ∨ a = 21 then 12 else a := by
     unfold f1
     rw [if_pos rfl]
     cases s with
     | none => rw [Option.getD_none] at ha; subst ha; rw [if_neg]; rintro (h | h); (rcases hso with rfl | rfl <;> cases h); omega
     | some p => rw [Option.getD_some] at ha; subst ha; rfl
    cases hi : isoB a
    ·by_cases h21 : a = 21
     ·rw [if_pos (.inr h21)] at hv
      subst h21
      have HK := keySet 12 (some 12) hv.symm (by rw [g1, hv])
      have HA : Hid _ := hset 12
      clear keyStay keySet hset hsty hv ha hi
      go_wp2_with fail
      refine HAt.out.mono ?_
      rintro ev wx ⟨rfl, hx⟩
      have hx' := hx.symm
      subst hx'
      go_wp2_with fail
      refine (isolates_any 21 _).mono ?_
      rintro ev wx ⟨rfl, hx⟩
      have hx' := hx.symm
      subst hx'
      rw [show isoB 21 = false from rfl]
      go_wp2
      go_roundg (n - (k + 1))
      case measure => omega
      case rel => exact ⟨k + 1, some 12, _, by omega, rfl, by go_num, HS.out.set k 12, HG.out.trans (HS.out.grown k 12), HK.out, HA.out⟩
     ·rw [if_neg (by rw [hi]; rintro (h | h); cases h; exact h21 h)] at hv
      have q21 : (a == 21) = false := by simpa using h21
      have HK := keySet a (some a) hv.symm (by rw [g1, hv])
      have HA : Hid _ := hset a
      have HI : Hid (isoB a = false) := hi
      clear keyStay keySet hset hsty hv ha hi
      go_wp2_with fail
      refine HAt.out.mono ?_
      rintro ev wx ⟨rfl, hx⟩
      have hx' := hx.symm
      subst hx'
      go_wp2_with fail
      refine (isolates_any a _).mono ?_
      rintro ev wx ⟨rfl, hx⟩
      have hx' := hx.symm
      subst hx'
      rw [HI.out]
      go_wp2
      go_roundg (n - (k + 1))
      case measure => omega
      case rel => exact ⟨k + 1, some a, _, by omega, rfl, by go_num, HS.out.set k a, HG.out.trans (HS.out.grown k a), HK.out, HA.out⟩
    ·rw [if_pos (.inl hi)] at hv
     have HK := keySet 12 (some 12) hv.symm (by rw [g1, hv])
     have HA : Hid _ := hset 12
     have HI : Hid (isoB a = true) := hi
     clear keyStay keySet hset hsty hv ha hi
     go_wp2_with fail
     refine HAt.out.mono ?_
     rintro ev wx ⟨rfl, hx⟩
     have hx' := hx.symm
     subst hx'
     go_wp2_with fail
     refine (isolates_any a _).mono ?_
     rintro ev wx ⟨rfl, hx⟩
     have hx' := hx.symm
     subst hx'
     rw [HI.out]
     go_wp2
     go_roundg (n - (k + 1))
     case measure => omega
     case rel => exact ⟨k + 1, some 12, _, by omega, rfl, by go_num, HS.out.set k 12, HG.out.trans (HS.out.grown k 12), HK.out, HA.out⟩
   ·have q8 : (c != 8) = true := by simpa using h8
    have HK := keyStay (some c) (f1_not h8).symm (by rw [g1, f1_not h8])
    have HA : Hid _ := hsty
    clear keyStay keySet hset hsty HAt
    go_wp2
    go_roundg (n - (k + 1))
    case measure => omega
    case rel => exact ⟨k + 1, some c, _, by omega, rfl, by go_num, HS.out, HG.out, HK.out, HA.out⟩
  ·have hpe : t' = pass (f1 sos) (g1 sos) none t := hN.stop (by rw [HL.out]; exact hlt)
   have HS : Hid (SqC wr B sb gc n cc pv rv bv lev sos eos (pass (f1 sos) (g1 sos) none t)) := by rw [← hpe]; exact hS
   have HG : Hid (w.grownBy wr (some gc)) := hG
   have hkn : ¬ (k : Int) < (n : Int) := by omega
   clear hS hG hN hpe
   go_wp2
   go_end0
   exact ⟨rfl, HS.out, HG.out⟩
end Go.Proofs.YtkbinfhclaafhaaGreatDoor
namespace Go.Proofs.YtkbinfhclaafhaaGreatDoor
open Go.RowKit
structure RowLaw (n kb kt : Nat) (cb ct : Array Value) {σ : Type} (J : Nat → σ → World → Prop) (bel : σ → Nat → Bool) : Prop where
 asks : ∀ x a W (i : Nat), J a x W → a ≤ i → i < n → Calls Tryz.prog kb (#[.int .i64 i] ++ cb) W fun e W' => e = .returned (.bool (bel x i)) ∧ J a x W'
 skip : ∀ x a W, J a x W → a < n → bel x a = false → ∃ x', J (a + 1) x' W
 tell : ∀ x a b W, J a x W → a < b → b ≤ n → (∀ j, a ≤ j → j < b → bel x j = true) → (b < n → bel x b = false) → Calls Tryz.prog kt (#[.int .i64 a, .int .i64 b] ++ ct) W fun e W' => e = .returned (.tuple #[]) ∧ ∃ x', J (b + 1) x' W'
set_option maxRecDepth 100000 in
set_option maxHeartbeats 8000000 in
theorem eachRow_any (n kb kt : Nat) (cb ct : Array Value) {σ : Type} (J : Nat → σ → World → Prop) (bel : σ → Nat → Bool) (hn : n ≤ 1000) (h : RowLaw n kb kt cb ct J bel) (eb : ∀ args w, (callFunc kb args).run Tryz.prog w = .ok (.enter kb args) w) (et : ∀ args w, (callFunc kt args).run Tryz.prog w = .ok (.enter kt args) w) (x0 : σ) (w : World) (h0 : J 0 x0 w) :
  Calls Tryz.prog 97 #[.int .i64 n, .func (.func kb) #[] cb, .func (.func kt) #[] ct] w fun e w' => e = .returned (.tuple #[]) ∧ ∃ k x, n ≤ k ∧ J k x w' := by
 have HR : Hid (RowLaw n kb kt cb ct J bel) := h
 have HJ : Hid (J 0 x0 w) := h0
 clear h h0
 go_enter Tryz.func97, Tryz.ntmps97
 go_wp2
 go_loopg [6] (n + 1) (fun gh fv W => ∃ (a : Nat) (x : σ), a ≤ n + 1 ∧ gh = n + 1 - a ∧ fv = .int .i64 a ∧ J a x W)
 case atStart => exact ⟨0, x0, by omega, rfl, rfl, HJ.out⟩
 case round =>
  clear HJ
  obtain ⟨a, x, ha, rfl, rfl, hJ⟩ := hrel
  have HJ : Hid (J a x wr) := hJ
  clear hJ
  by_cases hlt : a < n
  ·have hlt' : (a : Int) < (n : Int) := by omega
   obtain ⟨W1, hW1⟩ : ∃ W1, W1 = wr := ⟨_, rfl⟩
   subst hW1
   go_wp2
   go_loopg [7] (n - a) (fun gh tv W => ∃ b : Nat, a ≤ b ∧ b ≤ n ∧ gh = n - b ∧ tv = .int .i64 b ∧ J a x W ∧ ∀ j, a ≤ j → j < b → bel x j = true)
   case atStart => exact ⟨a, by omega, by omega, rfl, rfl, HJ.out, fun j h1 h2 => by omega⟩
   case round =>
    clear HJ
    obtain ⟨b, hab, hbn, rfl, rfl, hJ, hall⟩ := hrel
    have HA : Hid (∀ j, a ≤ j → j < b → bel x j = true) := hall
    clear hall
    by_cases hb : b < n
    ·have hb' : (b : Int) < (n : Int) := by omega
     cases hq : bel x b
     ·have HC : Hid (Calls Tryz.prog kb (#[.int .i64 b] ++ cb) wr fun e W' => e = .returned (.bool false) ∧ J a x W') := by have := HR.out.asks x a wr b hJ hab hb; rw [hq] at this; exact this
      have HF : Hid (b < n → bel x b = false) := fun _ => hq
      clear hJ hq
      go_wp2_with fail
      refine HC.out.mono ?_
      rintro ev w2 ⟨rfl, hJ2⟩
      have HJ2 : Hid (J a x w2) := hJ2
      clear hJ2 HC
      by_cases hgt : a < b
      ·have hgt' : (a : Int) < (b : Int) := by omega
       have HT : Hid (Calls Tryz.prog kt (#[.int .i64 a, .int .i64 b] ++ ct) w2 fun e W' => e = .returned (.tuple #[]) ∧ ∃ x', J (b + 1) x' W') := HR.out.tell x a b w2 HJ2.out hgt hbn HA.out HF.out
       go_wp2_with fail
       refine HT.out.mono ?_
       rintro ev w3 ⟨rfl, x3, hJ3⟩
       have HJ3 : Hid (J (b + 1) x3 w3) := hJ3
       clear hJ3 HT
       go_wp2
       go_roundg (n + 1 - (b + 1))
       case measure => omega
       case rel => exact ⟨b + 1, x3, by omega, rfl, by go_num, HJ3.out⟩
      ·have hgt' : ¬ (a : Int) < (b : Int) := by omega
       obtain rfl : a = b := by omega
       obtain ⟨x3, hJ3⟩ := HR.out.skip x a w2 HJ2.out hb (HF.out hb)
       have HJ3 : Hid (J (a + 1) x3 w2) := hJ3
       clear hJ3
       go_wp2
       go_roundg (n + 1 - (a + 1))
       case measure => omega
       case rel => exact ⟨a + 1, x3, by omega, rfl, by go_num, HJ3.out⟩
     ·have HC : Hid (Calls Tryz.prog kb (#[.int .i64 b] ++ cb) wr fun e W' => e = .returned (.bool true) ∧ J a x W') := by have := HR.out.asks x a wr b hJ hab hb; rw [hq] at this; exact this
      have HA2 : Hid (∀ j, a ≤ j → j < b + 1 → bel x j = true) := fun j h1 h2 => by
       rcases Nat.lt_or_ge j b with h | h
       ·exact HA.out j h1 h
       ·rw [show j = b by omega]; exact hq
      clear hJ hq
      go_wp2_with fail
      refine HC.out.mono ?_
      rintro ev w2 ⟨rfl, hJ2⟩
      have HJ2 : Hid (J a x w2) := hJ2
      clear hJ2 HC
      go_wp2
      go_roundg (n - (b + 1))
      case measure => omega
      case rel => exact ⟨b + 1, by omega, by omega, rfl, by go_num, HJ2.out, HA2.out⟩
    ·obtain rfl : b = n := by omega
     have hgt' : (a : Int) < (b : Int) := hlt'
     have hb' : ¬ (b : Int) < (b : Int) := by omega
     have HT : Hid (Calls Tryz.prog kt (#[.int .i64 a, .int .i64 b] ++ ct) wr fun e W' => e = .returned (.tuple #[]) ∧ ∃ x', J (b + 1) x' W') := HR.out.tell x a b wr hJ hlt hbn HA.out (fun h => absurd h hb)
     clear hJ
     go_wp2_with fail
     refine HT.out.mono ?_
     rintro ev w3 ⟨rfl, x3, hJ3⟩
     have HJ3 : Hid (J (b + 1) x3 w3) := hJ3
     clear hJ3 HT
     go_wp2
     go_roundg (b + 1 - (b + 1))
     case measure => omega
     case rel => exact ⟨b + 1, x3, by omega, rfl, by go_num, HJ3.out⟩
  ·have hlt' : ¬ (a : Int) < (n : Int) := by omega
   go_wp2
   go_end0
   exact ⟨rfl, a, by omega, x, HJ.out⟩
end Go.Proofs.YtkbinfhclaafhaaGreatDoor
