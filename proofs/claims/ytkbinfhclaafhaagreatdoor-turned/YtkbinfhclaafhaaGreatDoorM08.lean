import Derived.Test.YtkbinfhclaafhaaGreatDoorM07
import Derived.Lib.SliceRun
import Derived.Deep.RegionLaw
namespace Go.Proofs.YtkbinfhclaafhaaGreatDoor
open Go.RowKit
structure StkI (w : World) (B s : Nat) (v : Value) (l : List Nat) : Prop where
 cell : w.heap[s]? = some (.cells #[v] 257 (0, 0))
 row : w.ownsRow B 3 1 v l.length (iv (nl l))
 low : B ≤ s
structure FrS (w w' : World) (s : Nat) (v v' : Value) : Prop where
 os : w'.os = w.os
 tape : w'.tape = w.tape
 output : w'.output = w.output
 size : w.heap.size ≤ w'.heap.size
 block : ∀ k, k < w.heap.size → k ≠ s → v.ownBlock ≠ some k → w'.heap[k]? = w.heap[k]?
 own : v'.ownBlock = v.ownBlock ∨ ∀ k, v'.ownBlock = some k → w.heap.size ≤ k
theorem FrS.below {w w' w0 : World} {B s : Nat} {v v' : Value} {l : List Nat} (h : FrS w w' s v v') (hs : StkI w B s v l) (hb : Below B w0 w) : Below B w0 w' :=
 hb.trans ⟨h.os, h.tape, h.output, h.size, fun k hk => by
  have hlow := hs.low
  have hlt : k < w.heap.size := Nat.lt_of_lt_of_le (Nat.lt_of_lt_of_le hk hlow) (Nat.le_of_lt (heap_lt hs.cell))
  refine h.block k hlt (by omega) ?_
  intro e
  have := own_low hs.row k e
  omega⟩
theorem StkI.ne {w : World} {B s : Nat} {v : Value} {l : List Nat} (h : StkI w B s v l) : v.ownBlock ≠ some s := by
 rcases h.row.2 with ⟨rfl, _⟩ | ⟨g, cp, cur, rfl, _, hh, _⟩
 ·simp [Value.ownBlock]
 ·simp only [Value.ownBlock]
  intro e
  obtain rfl := Option.some.inj e
  rw [h.cell] at hh
  simp at hh
theorem StkI.grow {w w5 : World} {B s : Nat} {v v5 : Value} {l l' : List Nat} {m : Nat} (h : StkI w B s v l) (hown : w5.ownsRow B 3 1 v5 m (iv (nl l'))) (hg : w.grownBy w5 v.ownBlock) (hv : v5.ownBlock = v.ownBlock ∨ v5.ownBlock = some (w.heap.size + 1)) :
  StkI (w5.setCell ⟨s, 0, none⟩ v5) B s v5 l' ∧ FrS w (w5.setCell ⟨s, 0, none⟩ v5) s v v5 ∧ w5.cell? ⟨s, 0, none⟩ = some v ∧ w5.frozen? ⟨s, 0, none⟩ = false := by
 have hlt := heap_lt h.cell
 have hc5 : w5.heap[s]? = some (.cells #[v] 257 (0, 0)) := by rw [hg.block s hlt h.ne.symm]; exact h.cell
 have hne : v5.ownBlock ≠ some s := by
  rcases hv with hv | hv
  ·rw [hv]; exact h.ne
  ·rw [hv]; intro e; have := Option.some.inj e; omega
 have hm : m = l'.length := by have := hown.1; rw [iv_length, nl_length] at this; omega
 subst hm
 refine ⟨⟨by rw [Joins.block_setCell hc5]; rfl, row_set hown hne 0 v5, h.low⟩, ⟨hg.os, hg.tape, hg.output, ?_, ?_, ?_⟩, heap_cell hc5 0, heap_free hc5 0⟩
 ·have := hg.size; simpa using this
 ·intro k hk hks hkv
  rw [Below.heap_setCell]
  ·exact hg.block k hk (fun e => hkv e.symm)
  ·exact hks
 ·rcases hv with hv | hv
  ·exact .inl hv
  ·exact .inr fun k hk => by rw [hv] at hk; have := Option.some.inj hk; omega
set_option maxRecDepth 100000 in
theorem lenI_any (w : World) (B s : Nat) (v : Value) (l : List Nat) (h : StkI w B s v l) : Calls Tryz.prog 244 #[.pointer (some ⟨s, 0, none⟩)] w fun e w' => e = .returned (.int .i64 l.length) ∧ w' = w := by
 obtain ⟨a, c, rfl⟩ := own_form h.row
 have c0 : w.cell? ⟨s, 0, none⟩ = some (.slice a l.length c) := heap_cell h.cell 0
 clear h
 go_enter Tryz.func244, Tryz.ntmps244
 go_wp2
 go_ret
 exact ⟨rfl, rfl⟩
set_option maxRecDepth 100000 in
set_option maxHeartbeats 2000000 in
theorem atI_in (w : World) (B s : Nat) (v : Value) (l : List Nat) (i : Nat) (h : StkI w B s v l) (hi : i < l.length) : Calls Tryz.prog 234 #[.pointer (some ⟨s, 0, none⟩), .int .i64 i] w fun e w' => e = .returned (.tuple #[.int .i64 (l.getD i 0 : Nat), .bool true]) ∧ w' = w := by
 obtain ⟨g, c, rfl, _, _, _⟩ := own_some h.row (by omega)
 have c0 : w.cell? ⟨s, 0, none⟩ = some (.slice (some ⟨g, 0, none⟩) l.length c) := heap_cell h.cell 0
 have c1 := own_icell h.row i (by rw [nl_length]; exact hi)
 rw [nl_getD _ _ hi] at c1
 generalize l.getD i 0 = x at *
 generalize l.length = n at *
 have hi' : ((i : Int) < (n : Int)) := by omega
 have hg : decide ((i : Int) < 0) = false := by simp
 clear h
 go_enter Tryz.func234, Tryz.ntmps234
 go_wp2
 go_ret2
 exact ⟨rfl, rfl⟩
set_option maxRecDepth 100000 in
set_option maxHeartbeats 2000000 in
theorem atI_neg (w : World) (s : Nat) (i : Int) (hi : i < 0) : Calls Tryz.prog 234 #[.pointer (some ⟨s, 0, none⟩), .int .i64 i] w fun e w' => e = .returned (.tuple #[.int .i64 0, .bool false]) ∧ w' = w := by
 go_enter Tryz.func234, Tryz.ntmps234
 go_wp2
 go_ret2
 exact ⟨rfl, rfl⟩
set_option maxRecDepth 100000 in
set_option maxHeartbeats 2000000 in
theorem pushI_any (w : World) (B s : Nat) (v : Value) (l : List Nat) (i : Nat) (h : StkI w B s v l) (hl : l.length ≤ 1000000) : Calls Tryz.prog 197 #[.pointer (some ⟨s, 0, none⟩), .int .i64 i] w fun e w' => e = .returned (.tuple #[]) ∧ ∃ v', StkI w' B s v' (l ++ [i]) ∧ FrS w w' s v v' := by
 obtain ⟨iI, hiI, hzI0, hzI1, hzI2⟩ := info_parts Tryz.infoI8
 have c0 : w.cell? ⟨s, 0, none⟩ = some v := heap_cell h.cell 0
 have f0 : w.frozen? ⟨s, 0, none⟩ = false := heap_free h.cell 0
 have hrow := h.row
 have hbz : B ≤ w.heap.size := Nat.le_trans h.low (Nat.le_of_lt (heap_lt h.cell))
 have HS : Hid (StkI w B s v l) := h
 obtain ⟨a, c, rfl⟩ := own_form hrow
 clear h
 go_enter Tryz.func197, Tryz.ntmps197
 go_wp2_with (at_builtin; refine wpList_pushA _ rfl _ _ 31 rfl B 3 iI (.int .i64 0) 8 Tryz.underlying31 hiI hzI0 hzI1 hzI2 rfl (by decide) _ _ _ rfl hrow _ _ _ rfl rfl rfl hl hbz ?_)
 intro v5 w5 hown5 hg5 hv5
 obtain ⟨a5, c5', rfl⟩ := own_form hown5
 obtain ⟨hS5, hF5, c5, f5⟩ := HS.out.grow (by rw [iv_snoc, nl_snoc] at hown5; exact hown5) hg5 hv5
 have HS5 : Hid _ := hS5
 have HF5 : Hid _ := hF5
 clear hS5 hF5 hown5 hg5 hv5 hrow c0 f0
 go_wp2
 go_end0
 exact ⟨rfl, _, HS5.out, HF5.out⟩
theorem own_setCells {B g n c z : Nat} {e : TypeId} : ∀ (vs : List Value) (o : Nat) (w : World) (xs : List Value), w.ownsRow B e z (.slice (some ⟨g, 0, none⟩) n c) n xs → ∃ xs', (w.setCells g o vs).ownsRow B e z (.slice (some ⟨g, 0, none⟩) n c) n xs' ∧ w.grownBy (w.setCells g o vs) (some g) ∧ ∀ j, j < o → xs'[j]? = xs[j]?
 | [], _, w, xs, h => ⟨xs, h, World.grownBy.refl _ _, fun _ _ => rfl⟩
 | v :: vs, o, w, xs, h => by
  obtain ⟨h1, h2⟩ := World.ownsRow.stored h o v
  obtain ⟨xs', h3, h4, h5⟩ := own_setCells vs (o + 1) _ _ h1
  refine ⟨xs', h3, h2.trans h4, fun j hj => ?_⟩
  rw [h5 j (by omega), List.getElem?_set_ne (by omega)]
theorem take_same {α : Type} (xs ys : List α) (k : Nat) (h : ∀ j, j < k → ys[j]? = xs[j]?) : ys.take k = xs.take k := by
 apply List.ext_getElem?
 intro j
 rw [List.getElem?_take, List.getElem?_take]
 split
 ·exact h j (by assumption)
 ·rfl
theorem StkI.cut {w : World} {B s g c n : Nat} {l : List Nat} {vs : List Value} (h : StkI w B s (.slice (some ⟨g, 0, none⟩) l.length c) l) (hn : n < l.length) :
  StkI ((w.setCells g n vs).setCell ⟨s, 0, none⟩ (.slice (some ⟨g, 0, none⟩) n c)) B s (.slice (some ⟨g, 0, none⟩) n c) (l.take n) ∧ FrS w ((w.setCells g n vs).setCell ⟨s, 0, none⟩ (.slice (some ⟨g, 0, none⟩) n c)) s (.slice (some ⟨g, 0, none⟩) l.length c) (.slice (some ⟨g, 0, none⟩) n c) ∧ (w.setCells g n vs).cell? ⟨s, 0, none⟩ = some (.slice (some ⟨g, 0, none⟩) l.length c) ∧ (w.setCells g n vs).frozen? ⟨s, 0, none⟩ = false := by
 have hlt := heap_lt h.cell
 have hne := h.ne
 have hgs : g ≠ s := by simpa [Value.ownBlock] using hne
 obtain ⟨xs', h1, h2, h3⟩ := own_setCells vs n w _ h.row
 have hc5 : (w.setCells g n vs).heap[s]? = some (.cells #[.slice (some ⟨g, 0, none⟩) l.length c] 257 (0, 0)) := by rw [h2.block s hlt (by simpa using hgs.symm)]; exact h.cell
 have h4 := own_take h1 n (by omega)
 rw [Nat.mul_one, take_same _ _ n h3, ← Nat.mul_one n, iv_take, Nat.mul_one] at h4
 refine ⟨⟨by rw [Joins.block_setCell hc5]; rfl, ?_, h.low⟩, ⟨h2.os, h2.tape, h2.output, by have := h2.size; simpa using this, ?_, .inl rfl⟩, heap_cell hc5 0, heap_free hc5 0⟩
 ·have := row_set h4 (s := s) (by simpa [Value.ownBlock] using hgs) 0 (.slice (some ⟨g, 0, none⟩) n c)
  simpa [Nat.min_eq_left (Nat.le_of_lt hn)] using this
 ·intro k hk hks hkv
  rw [Below.heap_setCell]
  ·exact h2.block k hk (fun e => hkv (by rw [e]; rfl))
  ·exact hks
set_option maxRecDepth 100000 in
set_option maxHeartbeats 4000000 in
theorem cutI_in (w : World) (B s : Nat) (v : Value) (l : List Nat) (n : Nat) (h : StkI w B s v l) (hn : n < l.length) (hl : l.length ≤ 1000000) : Calls Tryz.prog 235 #[.pointer (some ⟨s, 0, none⟩), .int .i64 n] w fun e w' => e = .returned (.tuple #[]) ∧ ∃ v', StkI w' B s v' (l.take n) ∧ FrS w w' s v v' := by
 obtain ⟨g, c, rfl, hcap, hgw, hgB⟩ := own_some h.row (by omega)
 have c0 : w.cell? ⟨s, 0, none⟩ = some (.slice (some ⟨g, 0, none⟩) l.length c) := heap_cell h.cell 0
 have f0 : w.frozen? ⟨s, 0, none⟩ = false := heap_free h.cell 0
 have hclr := Lib.run_clear_slice (P := Tryz.prog) w 31 3 0 (.int .i64 0) Tryz.underlying31 Tryz.zeroValue3 rfl rfl g n (l.length - n) (c - n) (by omega) (fun j hj => by
   rw [own_icell h.row (n + j) (by rw [nl_length]; omega)]; rfl) (fun j _ => World.ownsRow.frozenAt h.row (n + j))
 have hncap : n ≤ c := by omega
 have hni : ((n : Int) < (l.length : Int)) := by omega
 obtain ⟨hS, hF, c5, f5⟩ := h.cut (vs := List.replicate (l.length - n) (.int .i64 0)) hn
 have HS : Hid _ := hS
 have HF : Hid _ := hF
 clear h hS hF
 generalize w.setCells g n (List.replicate (l.length - n) (.int .i64 0)) = Wc at *
 generalize l.length = L at *
 go_enter Tryz.func235, Tryz.ntmps235
 go_wp2
 go_end0
 exact ⟨rfl, _, HS.out, HF.out⟩
set_option maxRecDepth 100000 in
set_option maxHeartbeats 4000000 in
theorem popI_some (w : World) (B s : Nat) (v : Value) (l : List Nat) (x : Nat) (h : StkI w B s v (l ++ [x])) (hl : l.length ≤ 100000) : Calls Tryz.prog 198 #[.pointer (some ⟨s, 0, none⟩)] w fun e w' => e = .returned (.tuple #[.int .i64 x, .bool true]) ∧ ∃ v', StkI w' B s v' l ∧ FrS w w' s v v' := by
 have hlen : (l ++ [x]).length = l.length + 1 := by simp
 obtain ⟨a, c, rfl⟩ := own_form h.row
 have c0 : w.cell? ⟨s, 0, none⟩ = some (.slice a (l.length + 1) c) := by have := heap_cell h.cell 0; rw [hlen] at this; exact this
 have HAt : Hid (Calls Tryz.prog 234 #[.pointer (some ⟨s, 0, none⟩), .int .i64 l.length] w fun e w' => e = .returned (.tuple #[.int .i64 x, .bool true]) ∧ w' = w) := by
  have := atI_in w B s _ (l ++ [x]) l.length h (by omega)
  have hx : (l ++ [x]).getD l.length 0 = x := by simp
  rw [hx] at this
  exact this
 have HCut : Hid (Calls Tryz.prog 235 #[.pointer (some ⟨s, 0, none⟩), .int .i64 l.length] w fun e w' => e = .returned (.tuple #[]) ∧ ∃ v', StkI w' B s v' l ∧ FrS w w' s (.slice a (l ++ [x]).length c) v') := by
  have := cutI_in w B s _ (l ++ [x]) l.length h (by omega) (by omega)
  have hx : (l ++ [x]).take l.length = l := by simp
  rw [hx] at this
  exact this
 clear h hlen
 generalize l.length = L at *
 go_enter Tryz.func198, Tryz.ntmps198
 go_wp2_with fail
 refine HAt.out.mono ?_
 rintro ev wx ⟨rfl, hx⟩
 have hx' := hx.symm
 subst hx'
 go_wp2_with fail
 refine HCut.out.mono ?_
 rintro ev w2 ⟨rfl, v', hS, hF⟩
 have HS : Hid _ := hS
 have HF : Hid _ := hF
 clear hS hF
 go_wp2
 go_ret2
 exact ⟨rfl, _, HS.out, HF.out⟩
set_option maxRecDepth 100000 in
set_option maxHeartbeats 2000000 in
theorem popI_none (w : World) (B s : Nat) (v : Value) (h : StkI w B s v []) : Calls Tryz.prog 198 #[.pointer (some ⟨s, 0, none⟩)] w fun e w' => e = .returned (.tuple #[.int .i64 0, .bool false]) ∧ w' = w := by
 obtain ⟨a, c, rfl⟩ := own_form h.row
 have c0 : w.cell? ⟨s, 0, none⟩ = some (.slice a 0 c) := heap_cell h.cell 0
 clear h
 go_enter Tryz.func198, Tryz.ntmps198
 go_wp2_with fail
 refine (atI_neg w s (-1) (by omega)).mono ?_
 rintro ev wx ⟨rfl, hx⟩
 have hx' := hx.symm
 subst hx'
 go_wp2
 go_ret2
 exact ⟨rfl, rfl⟩
end Go.Proofs.YtkbinfhclaafhaaGreatDoor
namespace Go.Proofs.YtkbinfhclaafhaaGreatDoor
open Go.RowKit
def embB (c : Int) : Bool := c == 13 || (c == 14 || (c == 15 || c == 16))
set_option maxRecDepth 100000 in
set_option maxHeartbeats 2000000 in
theorem isolates_any (c : Int) (w : World) : Calls Tryz.prog 196 #[.int .i64 c] w fun e w' => e = .returned (.bool (isoB c)) ∧ w' = w := by
 obtain ⟨q, hq⟩ : ∃ q, q = isoB c := ⟨_, rfl⟩
 rw [← hq]
 have HQ : Hid (q = isoB c) := hq
 clear hq
 cases h1 : (c == 18)
 ·cases h2 : (c == 19)
  ·go_enter Tryz.func196, Tryz.ntmps196
   go_wp2
   go_ret
   exact ⟨ret_bool (by rw [HQ.out, isoB, h1, h2]; rfl), rfl⟩
  ·go_enter Tryz.func196, Tryz.ntmps196
   go_wp2
   go_ret
   exact ⟨ret_bool (by rw [HQ.out, isoB, h1, h2]; rfl), rfl⟩
 ·go_enter Tryz.func196, Tryz.ntmps196
  go_wp2
  go_ret
  exact ⟨ret_bool (by rw [HQ.out, isoB, h1]; rfl), rfl⟩
set_option maxRecDepth 100000 in
set_option maxHeartbeats 2000000 in
theorem embeds_any (c : Int) (w : World) : Calls Tryz.prog 202 #[.int .i64 c] w fun e w' => e = .returned (.bool (embB c)) ∧ w' = w := by
 obtain ⟨q, hq⟩ : ∃ q, q = embB c := ⟨_, rfl⟩
 rw [← hq]
 have HQ : Hid (q = embB c) := hq
 clear hq
 cases h1 : (c == 13) <;> cases h2 : (c == 14) <;> cases h3 : (c == 15)
 all_goals
  go_enter Tryz.func202, Tryz.ntmps202
  go_wp2
  go_ret
  exact ⟨ret_bool (by rw [HQ.out, embB, h1, h2, h3]; rfl), rfl⟩
set_option maxRecDepth 100000 in
set_option maxHeartbeats 2000000 in
theorem takenOut_any (c : Int) (w : World) : Calls Tryz.prog 160 #[.int .i64 c] w fun e w' => e = .returned (.bool (!leftB c)) ∧ w' = w := by
 have hl : (!leftB c) = (embB c || (c == 17 || c == 9)) := by
  rw [Bool.eq_iff_iff]
  simp only [leftB, embB, Bool.not_eq_true', Bool.and_eq_false_iff, bne_eq_false_iff_eq, Bool.or_eq_false_iff, decide_eq_false_iff_not, Bool.or_eq_true, beq_iff_eq]
  omega
 rw [hl]
 clear hl
 have HE : Hid (Calls Tryz.prog 202 #[.int .i64 c] w fun e w' => e = .returned (.bool (embB c)) ∧ w' = w) := embeds_any c w
 generalize embB c = eb at *
 cases eb <;> cases h2 : (c == 17)
 all_goals
  go_enter Tryz.func160, Tryz.ntmps160
  go_wp2_with fail
  refine HE.out.mono ?_
  rintro ev wx ⟨rfl, hx⟩
  have hx' := hx.symm
  subst hx'
  go_wp2
  go_ret
  exact ⟨ret_bool (by simp), rfl⟩
set_option maxRecDepth 100000 in
set_option maxHeartbeats 2000000 in
theorem bside_any (c : Int) (w : World) : Calls Tryz.prog 217 #[.int .i64 c] w fun e w' => e = .returned (.int .i64 (strongS c)) ∧ w' = w := by
 obtain ⟨q, hq⟩ : ∃ q, q = strongS c := ⟨_, rfl⟩
 rw [← hq]
 have HQ : Hid (q = strongS c) := hq
 clear hq
 cases h0 : (c == 0) <;> cases h1 : (c == 1) <;> cases h3 : (c == 3) <;> cases h6 : (c == 6)
 all_goals
  have HV : Hid (q = if (c == 0) = true then 0 else if (c == 1 || (c == 3 || c == 6)) = true then 1 else -1) := by
   show _ = _
   rw [HQ.out, strongS]; simp
  go_enter Tryz.func217, Tryz.ntmps217
  go_wp2
  go_ret
  exact ⟨ret_int (by rw [HV.out, h0, h1, h3, h6]; rfl), rfl⟩
set_option maxRecDepth 100000 in
set_option maxHeartbeats 2000000 in
theorem sideOf_any (l : Int) (w : World) (hl : 0 ≤ l) : Calls Tryz.prog 96 #[.int .i64 l] w fun e w' => e = .returned (.int .i64 (l % 2)) ∧ w' = w := by
 obtain ⟨q, hq⟩ : ∃ q, q = l % 2 := ⟨_, rfl⟩
 have h01 : q = 0 ∨ q = 1 := by omega
 rw [← hq]
 rcases h01 with rfl | rfl
 ·have h' : (l % 2 == 0) = true := by simpa using hq.symm
  clear hq
  go_enter Tryz.func96, Tryz.ntmps96
  go_wp2
  go_ret
  exact ⟨rfl, rfl⟩
 ·have h' : (l % 2 == 0) = false := by rw [← hq]; rfl
  clear hq
  go_enter Tryz.func96, Tryz.ntmps96
  go_wp2
  go_ret
  exact ⟨rfl, rfl⟩
end Go.Proofs.YtkbinfhclaafhaaGreatDoor
namespace Go.Proofs.YtkbinfhclaafhaaGreatDoor
open Go.RowKit
set_option maxRecDepth 100000 in
set_option maxHeartbeats 2000000 in
theorem bneutral_any (c : Int) (w : World) : Calls Tryz.prog 215 #[.int .i64 c] w fun e w' => e = .returned (.bool (neutB c)) ∧ w' = w := by
 have HI : Hid (Calls Tryz.prog 196 #[.int .i64 c] w fun e w' => e = .returned (.bool (isoB c)) ∧ w' = w) := isolates_any c w
 unfold neutB
 generalize isoB c = ib at *
 cases h1 : (c == 11) <;> cases h2 : (c == 10) <;> cases h3 : (c == 12)
 case false.false.false =>
  cases ib
  all_goals
   go_enter Tryz.func215, Tryz.ntmps215
   go_wp2_with fail
   refine HI.out.mono ?_
   rintro ev wx ⟨rfl, hx⟩
   have hx' := hx.symm
   subst hx'
   go_wp2
   go_ret
   exact ⟨ret_bool (by simp), rfl⟩
 all_goals
  go_enter Tryz.func215, Tryz.ntmps215
  go_wp2
  go_ret
  exact ⟨ret_bool (by simp), rfl⟩
def trailB (c : Int) : Bool := c == 11 || (isoB c || (c == 21 || !leftB c))
set_option maxRecDepth 100000 in
set_option maxHeartbeats 2000000 in
theorem btrails_any (c : Int) (w : World) : Calls Tryz.prog 162 #[.int .i64 c] w fun e w' => e = .returned (.bool (trailB c)) ∧ w' = w := by
 have HI : Hid (Calls Tryz.prog 196 #[.int .i64 c] w fun e w' => e = .returned (.bool (isoB c)) ∧ w' = w) := isolates_any c w
 have HT : Hid (Calls Tryz.prog 160 #[.int .i64 c] w fun e w' => e = .returned (.bool (!leftB c)) ∧ w' = w) := takenOut_any c w
 unfold trailB
 generalize isoB c = ib at *
 generalize (!leftB c) = tb at *
 cases h1 : (c == 11)
 ·cases ib
  ·cases h3 : (c == 21)
   ·go_enter Tryz.func162, Tryz.ntmps162
    go_wp2_with fail
    refine HI.out.mono ?_
    rintro ev wx ⟨rfl, hx⟩
    have hx' := hx.symm
    subst hx'
    go_wp2_with fail
    refine HT.out.mono ?_
    rintro ev wx ⟨rfl, hx⟩
    have hx' := hx.symm
    subst hx'
    go_wp2
    go_ret
    exact ⟨ret_bool (by simp), rfl⟩
   ·go_enter Tryz.func162, Tryz.ntmps162
    go_wp2_with fail
    refine HI.out.mono ?_
    rintro ev wx ⟨rfl, hx⟩
    have hx' := hx.symm
    subst hx'
    go_wp2
    go_ret
    exact ⟨ret_bool (by simp), rfl⟩
  ·go_enter Tryz.func162, Tryz.ntmps162
   go_wp2_with fail
   refine HI.out.mono ?_
   rintro ev wx ⟨rfl, hx⟩
   have hx' := hx.symm
   subst hx'
   go_wp2
   go_ret
   exact ⟨ret_bool (by simp), rfl⟩
 ·go_enter Tryz.func162, Tryz.ntmps162
  go_wp2
  go_ret
  exact ⟨ret_bool (by simp), rfl⟩
theorem StkI.setOther {w : World} {B s g : Nat} {v : Value} {l : List Nat} (h : StkI w B s v l) (hgs : g ≠ s) (hgv : v.ownBlock ≠ some g) (k : Nat) (u : Value) : StkI (w.setCell ⟨g, k, none⟩ u) B s v l :=
 ⟨by
  rw [Below.heap_setCell]
  ·exact h.cell
  ·exact hgs.symm, row_set h.row hgv k u, h.low⟩
theorem IRow.frs {w w' : World} {B g n c s : Nat} {v v' : Value} {t : List Int} (h : IRow w B g n c t) (hf : FrS w w' s v v') (hgs : g ≠ s) (hgv : v.ownBlock ≠ some g) : IRow w' B g n c t :=
 ownsRow_blocks h fun k o hk ho => by
  have : g = k := by simpa [Value.ownBlock] using hk
  subst this
  rw [hf.block g (heap_lt ho) hgs hgv]; exact ho
theorem FrS.apt {w w' : World} {s g : Nat} {v v' : Value} (hf : FrS w w' s v v') (hg : g < w.heap.size) (hgv : v.ownBlock ≠ some g) : v'.ownBlock ≠ some g := by
 rcases hf.own with h | h
 ·rw [h]; exact hgv
 ·intro e; have := h g e; omega
theorem nodup_few : ∀ (l : List Nat) (n : Nat), l.Nodup → (∀ a ∈ l, a < n) → l.length ≤ n
 | [], n, _, _ => by simp
 | a :: l, 0, _, h => by have := h a (by simp); omega
 | a :: l, n + 1, hn, h => by
  have ih := nodup_few ((a :: l).erase n) n (hn.erase n) (fun b hb => by
   have h1 := h b (List.mem_of_mem_erase hb)
   have h2 : b ≠ n := fun e => by subst e; exact (List.Nodup.not_mem_erase hn) hb
   omega)
  by_cases hm : n ∈ a :: l
  ·rw [List.length_erase_of_mem hm] at ih; omega
  ·rw [List.erase_of_not_mem hm] at ih; omega
set_option maxRecDepth 100000 in
set_option maxHeartbeats 8000000 in
theorem matches_row (cs : List Int) (n b off cap : Nat) (w : World) (hl : cs.length = n) (hn : n ≤ 1000) (hc : IntsAt w b off cs) (hb : b < w.heap.size) :
  Calls Tryz.prog 140 #[.slice (some ⟨b, off, none⟩) n cap] w fun e w' => ∃ g, e = .returned (.slice (some ⟨g, 0, none⟩) n n) ∧ RowAt w' w.heap.size 3 g n (iv (matchL cs)) ∧ Below w.heap.size w w' := by
 have hmk := run_make_row' (P := Tryz.prog) 31 3 (.int .i64 0) 8 Tryz.underlying31 Tryz.infoI8 rfl .i64 .i64 n (by omega) (by omega)
 have HC : Hid (IntsAt w b off cs ∧ b < w.heap.size ∧ cs.length = n) := ⟨hc, hb, hl⟩
 obtain ⟨W1, hW1⟩ : ∃ W1, W1 = (w.alloc (.cells (madeCells #[.int .i64 0] n) 3)).alloc (.cells #[.slice none 0 0] 257) := ⟨_, rfl⟩
 have HB1 : Hid (Below w.heap.size w W1) := by rw [hW1]; exact ((Below.refl _ _).alloc (Nat.le_refl _) _).alloc (by simp) _
 have HR1 : Hid (IRow W1 w.heap.size w.heap.size n n (matchF cs 0).1) := by
  rw [hW1]
  have h1 : RowAt (w.alloc (.cells (madeCells #[.int .i64 0] n) 3)) w.heap.size 3 w.heap.size n (List.replicate n (.int .i64 0)) := RowAt.made (Nat.le_refl _) (by omega)
  have h2 := h1.alloc (.cells #[.slice none 0 0] 257)
  have e : iv (matchF cs 0).1 = List.replicate n (.int .i64 0) := by rw [matchF, hl]; simp [iv]
  show World.ownsRow _ _ _ _ _ _ _
  rw [e]; exact h2
 have HS1 : Hid (StkI W1 w.heap.size (w.heap.size + 1) (.slice none 0 0) (matchF cs 0).2) := by
  rw [hW1]
  refine ⟨?_, ⟨rfl, .inl ⟨rfl, rfl⟩⟩, by omega⟩
  have hsz : (w.alloc (.cells (madeCells #[.int .i64 0] n) 3)).heap.size = w.heap.size + 1 := by simp
  rw [← hsz]
  exact Array.getElem?_push_size
 clear hc hb hl
 go_enter Tryz.func140, Tryz.ntmps140
 go_wp2
 rw [← hW1]
 obtain ⟨s, hs⟩ : ∃ s, s = w.heap.size + 1 := ⟨_, rfl⟩
 obtain ⟨g, hg⟩ : ∃ g, g = w.heap.size := ⟨_, rfl⟩
 rw [← hs]
 rw [← hs] at HS1
 have HG : Hid (g = w.heap.size ∧ s = w.heap.size + 1) := ⟨hg, hs⟩
 rw [← hg] at HR1 ⊢
 have HBz : Hid (w.heap.size = g) := hg.symm
 clear hW1 hmk hs hg
 go_loopg [14] n (fun gh kv W => ∃ (k : Nat) (v : Value) (x : List Int × List Nat), k ≤ n ∧ gh = n - k ∧ kv = .int .i64 k ∧ Below w.heap.size w W ∧ IRow W w.heap.size g n n x.1 ∧ StkI W w.heap.size s v x.2 ∧ v.ownBlock ≠ some g ∧ matchF cs k = x)
 case atStart => exact ⟨0, .slice none 0 0, matchF cs 0, by omega, rfl, rfl, HB1.out, by rw [HBz.out]; exact HR1.out, HS1.out, by simp [Value.ownBlock], rfl⟩
 case round =>
  clear HB1 HR1 HS1
  obtain ⟨k, v, x, hk, rfl, rfl, hB, hR, hS, hV, hX⟩ := hrel
  have HB : Hid (Below w.heap.size w wr) := hB
  have HR : Hid (IRow wr w.heap.size g n n x.1) := hR
  have HS : Hid (StkI wr w.heap.size s v x.2) := hS
  have HV : Hid (v.ownBlock ≠ some g) := hV
  have HX : Hid (matchF cs k = x) := hX
  have hok := matchF_ok cs k (by rw [HC.out.2.2]; exact hk)
  rw [hX] at hok
  have HOk : Hid (MOk cs k x) := hok
  have hgs : g ≠ s := by have := HG.out; omega
  have hgw : g < wr.heap.size := (World.ownsRow.lt hR g rfl).2
  have hst : x.2.length ≤ k := by
   have h1 := hok.nod
   have h2 : ∀ a ∈ x.2, a < k := fun a ha => by
    obtain ⟨d, hd⟩ := List.getElem?_of_mem ha
    exact (hok.opn d a hd).2.2.1
   exact nodup_few x.2 k h1 h2
  by_cases hlt : k < n
  ·have hkc : k < cs.length := by rw [HC.out.2.2]; exact hlt
   have cc := HC.out.1.stay hB HC.out.2.1 k hkc
   have hcell := hR.cell k hlt
   have hfr := hR.frozen k
   generalize x.1.getD k 0 = oc at hcell
   have hstep : matchF cs (k + 1) = mStep cs k x := by rw [matchF, hX]
   have hR1 := hR.set k (-1)
   have hS1 := hS.setOther hgs hV k (.int .i64 (-1))
   have hB1 : Below w.heap.size w (wr.setCell ⟨g, k, none⟩ (.int .i64 (-1))) := hB.setCell (p := ⟨g, k, none⟩) (by rw [HBz.out]; exact Nat.le_refl _) _
   have HR1 : Hid (IRow (wr.setCell ⟨g, k, none⟩ (.int .i64 (-1))) w.heap.size g n n (x.1.set k (-1))) := hR1
   have HS1 : Hid (StkI (wr.setCell ⟨g, k, none⟩ (.int .i64 (-1))) w.heap.size s v x.2) := hS1
   have HB1 : Hid (Below w.heap.size w (wr.setCell ⟨g, k, none⟩ (.int .i64 (-1)))) := hB1
   have hgw1 : g < (wr.setCell ⟨g, k, none⟩ (.int .i64 (-1))).heap.size := by simpa using hgw
   unfold mStep at hstep
   generalize cs.getD k 0 = c at *
   clear hB hR hS hV hX hok hR1 hS1 hB1 HB HR HS
   cases hiso : isoB c
   ·rw [hiso, if_neg (by decide)] at hstep
    by_cases h21 : c = 21
    ·subst h21
     rw [if_pos rfl] at hstep
     rcases List.eq_nil_or_concat x.2 with hx2 | ⟨st, o, hx2⟩
     ·rw [hx2] at hstep
      have HN : Hid (matchF cs (k + 1) = (x.1.set k (-1), x.2)) := by show _ = _; rw [hstep, hx2]; rfl
      have HPo : Hid (Calls Tryz.prog 198 #[.pointer (some ⟨s, 0, none⟩)] (wr.setCell ⟨g, k, none⟩ (.int .i64 (-1))) fun e w' => e = .returned (.tuple #[.int .i64 0, .bool false]) ∧ w' = wr.setCell ⟨g, k, none⟩ (.int .i64 (-1))) := popI_none _ w.heap.size s v (by have := HS1.out; rw [hx2] at this; exact this)
      clear hstep hiso hkc hx2
      go_wp2_with fail
      refine (isolates_any 21 _).mono ?_
      rintro ev wx ⟨rfl, hx⟩
      subst hx
      rw [isoB_pdi]
      go_wp2_with fail
      refine HPo.out.mono ?_
      rintro ev wx ⟨rfl, hx⟩
      subst hx
      go_wp2
      go_roundg (n - (k + 1))
      case measure => omega
      case rel => exact ⟨k + 1, v, (x.1.set k (-1), x.2), by omega, rfl, by simp, HB1.out, HR1.out, HS1.out, HV.out, HN.out⟩
     ·rw [List.concat_eq_append] at hx2
      rw [hx2] at hstep
      have HN : Hid (matchF cs (k + 1) = (((x.1.set k (-1)).set o (k : Int)).set k (o : Int), st)) := by show _ = _; rw [hstep]; simp
      have hok2 := HOk.out.opn st.length o (by rw [hx2]; simp)
      have hlo : o < k := hok2.2.2.1
      have hsl : st.length ≤ 100000 := by rw [hx2] at hst; simp at hst; omega
      have HPo : Hid (Calls Tryz.prog 198 #[.pointer (some ⟨s, 0, none⟩)] (wr.setCell ⟨g, k, none⟩ (.int .i64 (-1))) fun e w' => e = .returned (.tuple #[.int .i64 o, .bool true]) ∧ ∃ v', StkI w' w.heap.size s v' st ∧ FrS (wr.setCell ⟨g, k, none⟩ (.int .i64 (-1))) w' s v v') := popI_some _ w.heap.size s v st o (by have := HS1.out; rw [hx2] at this; exact this) hsl
      clear hstep hiso hkc hx2 hok2 hst
      go_wp2_with fail
      refine (isolates_any 21 _).mono ?_
      rintro ev wx ⟨rfl, hx⟩
      subst hx
      rw [isoB_pdi]
      go_wp2_with fail
      refine HPo.out.mono ?_
      rintro ev w3 ⟨rfl, v3, hS3, hF3⟩
      have hR3 : IRow w3 w.heap.size g n n (x.1.set k (-1)) := HR1.out.frs hF3 hgs HV.out
      have hV3 : v3.ownBlock ≠ some g := hF3.apt hgw1 HV.out
      have hB3 : Below w.heap.size w w3 := hF3.below HS1.out HB1.out
      have hon : o < n := by omega
      have co := hR3.cell o hon
      have fo := hR3.frozen o
      have hR4 := hR3.set o (k : Int)
      have ck := hR4.cell k hlt
      have fk := hR4.frozen k
      have HR5 : Hid (IRow ((w3.setCell ⟨g, o, none⟩ (.int .i64 k)).setCell ⟨g, k, none⟩ (.int .i64 o)) w.heap.size g n n (((x.1.set k (-1)).set o (k : Int)).set k (o : Int))) := hR4.set k (o : Int)
      have HS5 : Hid (StkI ((w3.setCell ⟨g, o, none⟩ (.int .i64 k)).setCell ⟨g, k, none⟩ (.int .i64 o)) w.heap.size s v3 st) := (hS3.setOther hgs hV3 o _).setOther hgs hV3 k _
      have HB5 : Hid (Below w.heap.size w ((w3.setCell ⟨g, o, none⟩ (.int .i64 k)).setCell ⟨g, k, none⟩ (.int .i64 o))) := (hB3.setCell (p := ⟨g, o, none⟩) (by rw [HBz.out]; exact Nat.le_refl _) _).setCell (p := ⟨g, k, none⟩) (by rw [HBz.out]; exact Nat.le_refl _) _
      have HV3 : Hid (v3.ownBlock ≠ some g) := hV3
      generalize (x.1.set k (-1)).getD o 0 = oo at co
      generalize ((x.1.set k (-1)).set o (k : Int)).getD k 0 = kk at ck
      clear hS3 hF3 hR3 hV3 hB3 hR4 HPo
      go_wp2
      go_roundg (n - (k + 1))
      case measure => omega
      case rel => exact ⟨k + 1, v3, (((x.1.set k (-1)).set o (k : Int)).set k (o : Int), st), by omega, rfl, by simp, HB5.out, HR5.out, HS5.out, HV3.out, HN.out⟩
    ·rw [if_neg h21] at hstep
     have q21 : (c != 21) = true := by simpa using h21
     have HN : Hid (matchF cs (k + 1) = (x.1.set k (-1), x.2)) := hstep
     have HIs : Hid (isoB c = false) := hiso
     clear hstep h21 hiso hkc
     go_wp2_with fail
     refine (isolates_any c _).mono ?_
     rintro ev wx ⟨rfl, hx⟩
     subst hx
     rw [HIs.out]
     go_wp2
     go_roundg (n - (k + 1))
     case measure => omega
     case rel => exact ⟨k + 1, v, (x.1.set k (-1), x.2), by omega, rfl, by simp, HB1.out, HR1.out, HS1.out, HV.out, HN.out⟩
   ·rw [hiso, if_pos rfl] at hstep
    have h21 : c ≠ 21 := by rintro rfl; cases hiso
    have q21 : (c != 21) = true := by simpa using h21
    have HN : Hid (matchF cs (k + 1) = (x.1.set k (-1), x.2 ++ [k])) := hstep
    have HIs : Hid (isoB c = true) := hiso
    have HPu : Hid (Calls Tryz.prog 197 #[.pointer (some ⟨s, 0, none⟩), .int .i64 k] (wr.setCell ⟨g, k, none⟩ (.int .i64 (-1))) fun e w' => e = .returned (.tuple #[]) ∧ ∃ v', StkI w' w.heap.size s v' (x.2 ++ [k]) ∧ FrS (wr.setCell ⟨g, k, none⟩ (.int .i64 (-1))) w' s v v') := pushI_any _ _ _ _ _ _ HS1.out (by omega)
    clear hstep h21 hiso hkc
    go_wp2_with fail
    refine (isolates_any c _).mono ?_
    rintro ev wx ⟨rfl, hx⟩
    subst hx
    rw [HIs.out]
    go_wp2_with fail
    refine HPu.out.mono ?_
    rintro ev w3 ⟨rfl, v3, hS3, hF3⟩
    have HS3 : Hid (StkI w3 w.heap.size s v3 (x.2 ++ [k])) := hS3
    have HB3 : Hid (Below w.heap.size w w3) := hF3.below HS1.out HB1.out
    have HR3 : Hid (IRow w3 w.heap.size g n n (x.1.set k (-1))) := HR1.out.frs hF3 hgs HV.out
    have HV3 : Hid (v3.ownBlock ≠ some g) := hF3.apt hgw1 HV.out
    clear hS3 hF3 HPu
    go_wp2
    go_roundg (n - (k + 1))
    case measure => omega
    case rel => exact ⟨k + 1, v3, (x.1.set k (-1), x.2 ++ [k]), by omega, rfl, by simp, HB3.out, HR3.out, HS3.out, HV3.out, HN.out⟩
  ·obtain rfl : k = n := by omega
   have HL : Hid (x.1 = matchL cs) := by show _ = _; rw [matchL, HC.out.2.2, hX]
   clear hB hR hS hV hX hok
   go_wp2
   refine bodyPost_ret (v := .slice (some ⟨g, 0, none⟩) k k) (by simp [results, Tryz.results140, go_sem]) rfl ⟨g, rfl, ?_, HB.out⟩
   have := HR.out
   rw [HL.out] at this
   exact this
end Go.Proofs.YtkbinfhclaafhaaGreatDoor
namespace Go.Proofs.YtkbinfhclaafhaaGreatDoor
open Go.RowKit
structure WAt (w : World) (B s : Nat) (v lp : Value) (x : XS) : Prop where
 cell : w.heap[s]? = some (.cells #[lp, v, .int .i64 x.isos, .int .i64 x.embs, .int .i64 x.valid] 212 (0, 0))
 row : w.ownsRow B 215 3 v x.st.length (entsV x.st)
 low : B ≤ s
theorem WAt.ne {w : World} {B s : Nat} {v lp : Value} {x : XS} (h : WAt w B s v lp x) : v.ownBlock ≠ some s := by
 rcases h.row.2 with ⟨rfl, _⟩ | ⟨g, cp, cur, rfl, _, hh, _⟩
 ·simp [Value.ownBlock]
 ·simp only [Value.ownBlock]
  intro e
  obtain rfl := Option.some.inj e
  rw [h.cell] at hh
  simp at hh
theorem FrS.belowW {w w' w0 : World} {B s : Nat} {v v' lp : Value} {x : XS} (h : FrS w w' s v v') (hs : WAt w B s v lp x) (hb : Below B w0 w) : Below B w0 w' :=
 hb.trans ⟨h.os, h.tape, h.output, h.size, fun k hk => by
  have hlow := hs.low
  have hlt : k < w.heap.size := Nat.lt_of_lt_of_le (Nat.lt_of_lt_of_le hk hlow) (Nat.le_of_lt (heap_lt hs.cell))
  refine h.block k hlt (by omega) ?_
  intro e
  have := own_low hs.row k e
  omega⟩
theorem FrS.refl (w : World) (s : Nat) (v : Value) : FrS w w s v v := ⟨rfl, rfl, rfl, Nat.le_refl _, fun _ _ _ _ => rfl, .inl rfl⟩
theorem WAt.ent {w : World} {B s : Nat} {v lp : Value} {x : XS} (h : WAt w B s v lp x) (i : Nat) (hi : i < x.st.length) : ∃ g c, v = .slice (some ⟨g, 0, none⟩) x.st.length c ∧ x.st.length ≤ c ∧ g < w.heap.size ∧ ∃ e, x.st[i]? = some e ∧ w.cell? ⟨g, i * 3, none⟩ = some (.int .i64 e.l) ∧ w.cell? ⟨g, i * 3 + 1, none⟩ = some (.int .i64 e.o) ∧ w.cell? ⟨g, i * 3 + 2, none⟩ = some (.bool e.i) := by
 obtain ⟨g, c, rfl, hc, hg, _⟩ := own_some h.row (by omega)
 refine ⟨g, c, rfl, hc, hg, x.st[i], List.getElem?_eq_getElem hi, ?_⟩
 have key : ∀ (l : List Ent) (i : Nat) (hi : i < l.length), (entsV l)[i * 3]? = some (.int .i64 l[i].l) ∧ (entsV l)[i * 3 + 1]? = some (.int .i64 l[i].o) ∧ (entsV l)[i * 3 + 2]? = some (.bool l[i].i) := by
  intro l
  induction l with
  | nil => intro i hi; simp at hi
  | cons a l ih =>
   intro i hi
   have e : entsV (a :: l) = [.int .i64 a.l, .int .i64 a.o, .bool a.i] ++ entsV l := by simp [entsV, Ent.cells]
   cases i with
   | zero => rw [e]; simp
   | succ i =>
    have := ih i (by simpa using hi)
    rw [e, show (i + 1) * 3 = i * 3 + 3 by omega]
    simpa using this
 obtain ⟨k0, k1, k2⟩ := key x.st i hi
 exact ⟨by rw [World.ownsRow.cellAt h.row (i * 3) (by omega)]; exact k0, by rw [World.ownsRow.cellAt h.row (i * 3 + 1) (by omega)]; exact k1, by rw [World.ownsRow.cellAt h.row (i * 3 + 2) (by omega)]; exact k2⟩
set_option maxRecDepth 100000 in
theorem lenE_any (w : World) (B s : Nat) (v lp : Value) (x : XS) (h : WAt w B s v lp x) : Calls Tryz.prog 241 #[.pointer (some ⟨s, 1, none⟩)] w fun e w' => e = .returned (.int .i64 x.st.length) ∧ w' = w := by
 obtain ⟨a, c, rfl⟩ := own_form h.row
 have c0 : w.cell? ⟨s, 1, none⟩ = some (.slice a x.st.length c) := heap_cell h.cell 1
 clear h
 go_enter Tryz.func241, Tryz.ntmps241
 go_wp2
 go_ret
 exact ⟨rfl, rfl⟩
set_option maxRecDepth 100000 in
set_option maxHeartbeats 2000000 in
theorem atE_in (w : World) (B s : Nat) (v lp : Value) (x : XS) (i : Nat) (e : Ent) (h : WAt w B s v lp x) (he : x.st[i]? = some e) : Calls Tryz.prog 263 #[.pointer (some ⟨s, 1, none⟩), .int .i64 i] w fun ev w' => ev = .returned (.tuple #[.agg #[.int .i64 e.l, .int .i64 e.o, .bool e.i], .bool true]) ∧ Below w.heap.size w w' := by
 have hi : i < x.st.length := (List.getElem?_eq_some_iff.1 he).1
 obtain ⟨g, c, rfl, _, hg, e', he', k0, k1, k2⟩ := h.ent i hi
 obtain rfl : e = e' := Option.some.inj (he.symm.trans he')
 have hlt := heap_lt h.cell
 have c0 : (w.alloc (.cells #[.int .i64 0, .int .i64 0, .bool false] 215)).cell? ⟨s, 1, none⟩ = some (.slice (some ⟨g, 0, none⟩) x.st.length c) := (World.cell?_alloc_lt _ _ ⟨s, 1, none⟩ hlt).trans (heap_cell h.cell 1)
 have k0 := (World.cell?_alloc_lt w (.cells #[.int .i64 0, .int .i64 0, .bool false] 215) ⟨g, i * 3, none⟩ hg).trans k0
 have k1 := (World.cell?_alloc_lt w (.cells #[.int .i64 0, .int .i64 0, .bool false] 215) ⟨g, i * 3 + 1, none⟩ hg).trans k1
 have k2 := (World.cell?_alloc_lt w (.cells #[.int .i64 0, .int .i64 0, .bool false] 215) ⟨g, i * 3 + 2, none⟩ hg).trans k2
 have hi' : ((i : Int) < (x.st.length : Int)) := by omega
 have hg0 : decide ((i : Int) < 0) = false := by simp
 clear h he he'
 generalize x.st.length = n at *
 obtain ⟨el, eo, ei⟩ := e
 simp only at k0 k1 k2 ⊢
 go_enter Tryz.func263, Tryz.ntmps263
 go_wp2
 exact bodyPost_ret (v := .tuple #[.agg #[.int .i64 el, .int .i64 eo, .bool ei], .bool true]) (by simp [results, Tryz.results263, Tryz.isAgg215, Tryz.sizeOf215, go_sem]) rfl ⟨rfl, (Below.refl _ _).alloc (Nat.le_refl _) _⟩
theorem Tryz.infoEntB : (Tryz.prog.info? 215).map (fun i => (i.zero, i.size, i.bytes)) = some (some (.agg #[.int .i64 0, .int .i64 0, .bool false]), 3, 24) := by kernel_rfl
theorem WAt.grow {w w5 : World} {B s : Nat} {v v5 lp : Value} {x : XS} {st' : List Ent} {m : Nat} (h : WAt w B s v lp x) (hown : w5.ownsRow B 215 3 v5 m (entsV st')) (hg : w.grownBy w5 v.ownBlock) (hv : v5.ownBlock = v.ownBlock ∨ ∀ k, v5.ownBlock = some k → w.heap.size ≤ k) :
  WAt (w5.setCell ⟨s, 1, none⟩ v5) B s v5 lp { x with st := st' } ∧ FrS w (w5.setCell ⟨s, 1, none⟩ v5) s v v5 ∧ w5.cell? ⟨s, 1, none⟩ = some v ∧ w5.frozen? ⟨s, 1, none⟩ = false := by
 have hlt := heap_lt h.cell
 have hc5 : w5.heap[s]? = some (.cells #[lp, v, .int .i64 x.isos, .int .i64 x.embs, .int .i64 x.valid] 212 (0, 0)) := by rw [hg.block s hlt h.ne.symm]; exact h.cell
 have hne : v5.ownBlock ≠ some s := by
  rcases hv with hv | hv
  ·rw [hv]; exact h.ne
  ·intro e; have := hv s e; omega
 have hm : m = st'.length := by have := hown.1; rw [entsV_length] at this; omega
 subst hm
 refine ⟨⟨by rw [Joins.block_setCell hc5]; rfl, row_set hown hne 1 v5, h.low⟩, ⟨hg.os, hg.tape, hg.output, ?_, ?_, hv⟩, heap_cell hc5 1, heap_free hc5 1⟩
 ·have := hg.size; simpa using this
 ·intro k hk hks hkv
  rw [Below.heap_setCell]
  ·exact hg.block k hk (fun e => hkv e.symm)
  ·exact hks
theorem alloc2_grown (w : World) (a b : Obj) (r : Option Nat) : w.grownBy ((w.alloc a).alloc b).drew r := ⟨rfl, rfl, rfl, by simp; omega, fun k hk _ => by
 show ((w.alloc a).alloc b).heap[k]? = _
 rw [Below.heap_alloc (w.alloc a) b k (by simp; omega)]
 exact Below.heap_alloc w a k hk⟩
theorem news3 (w : World) (a : Obj) (y0 y1 y2 : Value) (e : TypeId) : ∀ j u, [y0, y1, y2][j]? = some u → ((w.alloc a).alloc (.cells #[y0, y1, y2] e)).drew.cell? ((⟨w.heap.size + 1, 0, none⟩ : Addr).add j) = some u := by
 intro j u hj
 have hsz : (w.alloc a).heap.size = w.heap.size + 1 := by simp
 rw [← hsz]
 match j, hj with
 | 0, hj => simp at hj; subst hj; simp [Addr.add]
 | 1, hj => simp at hj; subst hj; simp [Addr.add]
 | 2, hj => simp at hj; subst hj; simp [Addr.add]
theorem step_append_own {P : Program} {ops : Array Oper} {o : Oper} {a : Act} {w : World} {K : Act → World → Prop} {Q : Exit → Act → World → Prop} {E : Prop} (hgd : o.guard = none) (s x : Operand) (t : TypeId)
  (ho : o.op = .call { callee := .builtin .append, args := #[s, x], argTypes := #[t, t] })
  (base : Nat) (e : TypeId) (i : TypeInfo) (z : Value) (size bytes : Nat) (ht : P.underlying t = some (.slice e)) (hi : P.info? e = some i) (hz : i.zero = some z)
  (hsize : i.size = size) (hby : i.bytes = bytes) (hzs : z.cells.size = size) (hsz : 0 < size) (hb64 : bytes ≤ 64)
  (v : Value) (n : Nat) (xs : List Value) (hs : a.eval s = v) (hown : w.ownsRow base e size v n xs)
  (g : Nat) (news : List Value) (hx : a.eval x = .slice (some ⟨g, 0, none⟩) 1 1) (hl : news.length = size) (hnews : ∀ j u, news[j]? = some u → w.cell? ((⟨g, 0, none⟩ : Addr).add j) = some u) (h1 : ∀ u ∈ news, u.oneCell' = true) (hn : n ≤ 1000000) (hbase : base ≤ w.heap.size)
  (h : ∀ v' w', w'.ownsRow base e size v' (n + 1) (xs ++ news) → w.grownBy w' v.ownBlock → (v'.ownBlock = v.ownBlock ∨ v'.ownBlock = some w.heap.size) → K (a.put o.dst v') w') : if Region.wanted o (yielded ops a.tmps) = true then Oper.wp P o a w K Q else E := by
 have hw : Region.wanted o (yielded ops a.tmps) = true := by simp [Region.wanted, hgd]
 rw [if_pos hw]
 have hbytes : (n + 1) * bytes ≤ 140737488355328 := by
  have : (n + 1) * bytes ≤ 1000001 * 64 := Nat.mul_le_mul (by omega) hb64
  omega
 obtain ⟨v', w', hr, h2, h3, _, h5⟩ := run_append_own_at (P := P) w base t o.type e i z size bytes ht hi hz hsize hby hzs hsz v n xs hown ⟨g, 0, none⟩ 1 1 news (by omega) hnews h1 (by unfold maxLen; omega) hbytes hbase
 unfold Oper.wp execOp
 simp only [ho, resolve, invoke, builtin, Sem.run_bind, Sem.run_pure, Result.andThen_ok, List.map_toArray, List.map_cons, List.map_nil, hs, hx, hr]
 exact h v' w' h2 h3 h5
set_option maxRecDepth 100000 in
set_option maxHeartbeats 4000000 in
theorem pushE_any (w : World) (B s : Nat) (v lp : Value) (x : XS) (el eo : Int) (ei : Bool) (h : WAt w B s v lp x) (hl : x.st.length ≤ 1000000) : Calls Tryz.prog 142 #[.pointer (some ⟨s, 1, none⟩), .agg #[.int .i64 el, .int .i64 eo, .bool ei]] w fun e w' => e = .returned (.tuple #[]) ∧ ∃ v', WAt w' B s v' lp { x with st := x.st ++ [⟨el, eo, ei⟩] } ∧ FrS w w' s v v' := by
 obtain ⟨iE, hiE, hzE0, hzE1, hzE2⟩ := info_parts Tryz.infoEntB
 have c0 : w.cell? ⟨s, 1, none⟩ = some v := heap_cell h.cell 1
 have f0 : w.frozen? ⟨s, 1, none⟩ = false := heap_free h.cell 1
 have hrow := h.row
 have hbz : B ≤ w.heap.size := Nat.le_trans h.low (Nat.le_of_lt (heap_lt h.cell))
 obtain ⟨a, c, rfl⟩ := own_form hrow
 have HS : Hid (WAt w B s (.slice a x.st.length c) lp x) := h
 clear h
 go_enter Tryz.func142, Tryz.ntmps142
 have hsl := heap_lt HS.out.cell
 have c1 : (w.alloc (.cells #[.int .i64 el, .int .i64 eo, .bool ei] 215)).cell? ⟨s, 1, none⟩ = some (.slice a x.st.length c) := (World.cell?_alloc_lt _ _ ⟨s, 1, none⟩ hsl).trans c0
 clear c0 f0
 go_wp2
 go_region_law (refine step_append_own rfl _ _ 208 rfl B 215 iE (.agg #[.int .i64 0, .int .i64 0, .bool false]) 3 24 Tryz.underlying208 hiE hzE0 hzE1 hzE2 rfl (by decide) (by decide) _ x.st.length (entsV x.st) rfl (World.ownsRow.alloc (World.ownsRow.alloc hrow (.cells #[.int .i64 el, .int .i64 eo, .bool ei] 215)) (.cells #[.int .i64 el, .int .i64 eo, .bool ei] 215)) _ [.int .i64 el, .int .i64 eo, .bool ei] rfl rfl (news3 w _ _ _ _ _) (by intro u hu; simp at hu; rcases hu with rfl | rfl | rfl <;> rfl) hl (by simp; omega) ?_; intro v5 w5 hown5 hg5 hv5; obtain ⟨a5, c5', rfl⟩ := own_form hown5; obtain ⟨hS5, hF5, c5, f5⟩ := HS.out.grow (st' := x.st ++ [⟨el, eo, ei⟩]) (by rw [entsV_snoc]; exact hown5) ((alloc2_grown w _ _ _).trans hg5) (by rcases hv5 with h | h; exact .inl h; exact .inr (fun k hk => by rw [h] at hk; have := Option.some.inj hk; simp at this; omega)); clear hown5 hg5 hv5)
 all_goals
  go_end0
  exact ⟨rfl, _, hS5, hF5⟩
set_option maxRecDepth 100000 in
set_option maxHeartbeats 4000000 in
theorem topE_any (w : World) (B s : Nat) (v lp : Value) (x : XS) (e : Ent) (h : WAt w B s v lp x) (he : x.st[x.st.length - 1]? = some e) (hl : x.st.length ≤ 100000) : Calls Tryz.prog 238 #[.pointer (some ⟨s, 1, none⟩)] w fun ev w' => ev = .returned (.agg #[.int .i64 e.l, .int .i64 e.o, .bool e.i]) ∧ Below w.heap.size w w' := by
 have hpos : 0 < x.st.length := by have := (List.getElem?_eq_some_iff.1 he).1; omega
 obtain ⟨n, hn⟩ : ∃ n, x.st.length = n + 1 := ⟨x.st.length - 1, by omega⟩
 obtain ⟨a, c, rfl⟩ := own_form h.row
 have hsl := heap_lt h.cell
 have HAt : Hid (∀ W, Below w.heap.size w W → Calls Tryz.prog 263 #[.pointer (some ⟨s, 1, none⟩), .int .i64 n] W fun ev w' => ev = .returned (.tuple #[.agg #[.int .i64 e.l, .int .i64 e.o, .bool e.i], .bool true]) ∧ Below W.heap.size W w') := fun W hb =>
  atE_in W B s _ lp x n e ⟨by rw [hb.block s hsl]; exact h.cell, own_below h.row hb, h.low⟩ (by rw [hn, Nat.add_sub_cancel] at he; exact he)
 have c1 : (w.alloc (.cells #[.int .i64 0, .int .i64 0, .bool false] 215)).cell? ⟨s, 1, none⟩ = some (.slice a (n + 1) c) := by
  rw [← hn]; exact (World.cell?_alloc_lt _ _ ⟨s, 1, none⟩ hsl).trans (heap_cell h.cell 1)
 have hnb : n ≤ 100000 := by omega
 clear h he hpos hn
 obtain ⟨el, eo, ei⟩ := e
 simp only at HAt ⊢
 go_enter Tryz.func238, Tryz.ntmps238
 go_wp2_with fail
 refine (HAt.out _ ((Below.refl _ _).alloc (Nat.le_refl _) _)).mono ?_
 rintro ev w2 ⟨rfl, hb2⟩
 obtain ⟨hc2, hf2⟩ := bcell hb2
 have k0 := (hc2 w.heap.size 0 (by simp)).trans (show _ = some (.int .i64 0) by simp)
 have k1 := (hc2 w.heap.size 1 (by simp)).trans (show _ = some (.int .i64 0) by simp)
 have k2 := (hc2 w.heap.size 2 (by simp)).trans (show _ = some (.bool false) by simp)
 have f0 := (hf2 w.heap.size 0 (by simp)).trans (show _ = false by simp)
 have f1 := (hf2 w.heap.size 1 (by simp)).trans (show _ = false by simp)
 have f2 := (hf2 w.heap.size 2 (by simp)).trans (show _ = false by simp)
 have hz : w.heap.size < w2.heap.size := by have := hb2.size; simp at this; omega
 have HB : Hid (Below w.heap.size w w2) := ((Below.refl _ _).alloc (Nat.le_refl _) _).trans (hb2.mono (by simp))
 clear hc2 hf2 hb2 c1 HAt
 go_wp2
 have e0 : ((((w2.setCell ⟨w.heap.size, 0, none⟩ (.int .i64 el)).setCell ⟨w.heap.size, 1, none⟩ (.int .i64 eo)).setCell ⟨w.heap.size, 2, none⟩ (.bool ei)).alloc (.cells #[.int .i64 el, .int .i64 eo, .bool ei] 215)).cell? ⟨w.heap.size, 0, none⟩ = (((w2.setCell ⟨w.heap.size, 0, none⟩ (.int .i64 el)).setCell ⟨w.heap.size, 1, none⟩ (.int .i64 eo)).setCell ⟨w.heap.size, 2, none⟩ (.bool ei)).cell? ⟨w.heap.size, 0, none⟩ := World.cell?_alloc_lt _ _ ⟨w.heap.size, 0, none⟩ (by simp; omega)
 have e1 : ((((w2.setCell ⟨w.heap.size, 0, none⟩ (.int .i64 el)).setCell ⟨w.heap.size, 1, none⟩ (.int .i64 eo)).setCell ⟨w.heap.size, 2, none⟩ (.bool ei)).alloc (.cells #[.int .i64 el, .int .i64 eo, .bool ei] 215)).cell? ⟨w.heap.size, 1, none⟩ = (((w2.setCell ⟨w.heap.size, 0, none⟩ (.int .i64 el)).setCell ⟨w.heap.size, 1, none⟩ (.int .i64 eo)).setCell ⟨w.heap.size, 2, none⟩ (.bool ei)).cell? ⟨w.heap.size, 1, none⟩ := World.cell?_alloc_lt _ _ ⟨w.heap.size, 1, none⟩ (by simp; omega)
 have e2 : ((((w2.setCell ⟨w.heap.size, 0, none⟩ (.int .i64 el)).setCell ⟨w.heap.size, 1, none⟩ (.int .i64 eo)).setCell ⟨w.heap.size, 2, none⟩ (.bool ei)).alloc (.cells #[.int .i64 el, .int .i64 eo, .bool ei] 215)).cell? ⟨w.heap.size, 2, none⟩ = (((w2.setCell ⟨w.heap.size, 0, none⟩ (.int .i64 el)).setCell ⟨w.heap.size, 1, none⟩ (.int .i64 eo)).setCell ⟨w.heap.size, 2, none⟩ (.bool ei)).cell? ⟨w.heap.size, 2, none⟩ := World.cell?_alloc_lt _ _ ⟨w.heap.size, 2, none⟩ (by simp; omega)
 refine bodyPost_ret (v := .agg #[.int .i64 el, .int .i64 eo, .bool ei]) (by simp [results, Tryz.results238, Tryz.isAgg215, Tryz.sizeOf215, go_sem, e0, e1, e2, k0, k1, k2]) rfl ⟨rfl, ?_⟩
 exact (((HB.out.setCell (p := ⟨w.heap.size, 0, none⟩) (Nat.le_refl _) _).setCell (p := ⟨w.heap.size, 1, none⟩) (Nat.le_refl _) _).setCell (p := ⟨w.heap.size, 2, none⟩) (Nat.le_refl _) _).alloc (by simp; omega) _
end Go.Proofs.YtkbinfhclaafhaaGreatDoor
namespace Go.Proofs.YtkbinfhclaafhaaGreatDoor
open Go.RowKit
theorem zero3_length (y0 y1 y2 : Value) (n : Nat) : (Builtin.zeroCells #[y0, y1, y2] n).toList.length = n * 3 := by simp [Builtin.zeroCells]
theorem zero3_mem (y0 y1 y2 : Value) (n : Nat) (u : Value) (h : u ∈ (Builtin.zeroCells #[y0, y1, y2] n).toList) : u = y0 ∨ u = y1 ∨ u = y2 := by
 simp [Builtin.zeroCells] at h
 obtain ⟨i, _, rfl⟩ := h
 have h3 : i % 3 = 0 ∨ i % 3 = 1 ∨ i % 3 = 2 := by omega
 rcases h3 with h | h | h <;> simp [h]
theorem run_clear_ents (w : World) (ty : TypeId) (b o n c : Nat) (hn : 0 < n) (hc : ∀ j, j < n * 3 → (w.cell? ⟨b, o + j, none⟩).isSome = true) (hf : ∀ j, j < n * 3 → w.frozen? ⟨b, o + j, none⟩ = false) :
  (Builtin.clear_ #[208] ty #[.slice (some ⟨b, o, none⟩) n c]).run Tryz.prog w = .ok (.tuple #[]) (w.setCells b o (Builtin.zeroCells #[.int .i64 0, .int .i64 0, .bool false] n).toList) := by
 have hst := run_storeCells_cells (P := Tryz.prog) b o (Builtin.zeroCells #[.int .i64 0, .int .i64 0, .bool false] n).toList 0 w (by rw [zero3_length]; simpa using hc) (by rw [zero3_length]; simpa using hf) (by intro v hv; rcases zero3_mem _ _ _ _ _ hv with rfl | rfl | rfl <;> rfl)
 simp only [Nat.add_zero] at hst
 obtain ⟨m, rfl⟩ : ∃ m, n = m + 1 := ⟨n - 1, by omega⟩
 have hzc : (Value.agg #[.int .i64 0, .int .i64 0, .bool false]).cells = #[.int .i64 0, .int .i64 0, .bool false] := rfl
 simp [Builtin.clear_, run_underlying Tryz.underlying208, Tryz.zeroValue215, hzc, hst]
theorem entsV_take : ∀ (st : List Ent) (n : Nat), (entsV st).take (n * 3) = entsV (st.take n)
 | [], n => by simp [entsV]
 | e :: st, 0 => by simp [entsV]
 | e :: st, n + 1 => by
  have h : ∀ l : List Ent, entsV (e :: l) = .int .i64 e.l :: .int .i64 e.o :: .bool e.i :: entsV l := fun l => by simp [entsV, Ent.cells]
  rw [List.take_succ_cons, h, h, show (n + 1) * 3 = n * 3 + 1 + 1 + 1 by omega]
  simp only [List.take_succ_cons]
  rw [entsV_take st n]
theorem WAt.cut {w : World} {B s g c n : Nat} {lp : Value} {x : XS} {vs : List Value} (h : WAt w B s (.slice (some ⟨g, 0, none⟩) x.st.length c) lp x) (hn : n < x.st.length) :
  WAt ((w.setCells g (n * 3) vs).setCell ⟨s, 1, none⟩ (.slice (some ⟨g, 0, none⟩) n c)) B s (.slice (some ⟨g, 0, none⟩) n c) lp { x with st := x.st.take n } ∧ FrS w ((w.setCells g (n * 3) vs).setCell ⟨s, 1, none⟩ (.slice (some ⟨g, 0, none⟩) n c)) s (.slice (some ⟨g, 0, none⟩) x.st.length c) (.slice (some ⟨g, 0, none⟩) n c) ∧ (w.setCells g (n * 3) vs).cell? ⟨s, 1, none⟩ = some (.slice (some ⟨g, 0, none⟩) x.st.length c) ∧ (w.setCells g (n * 3) vs).frozen? ⟨s, 1, none⟩ = false := by
 have hlt := heap_lt h.cell
 have hgs : g ≠ s := by simpa [Value.ownBlock] using h.ne
 obtain ⟨xs', h1, h2, h3⟩ := own_setCells vs (n * 3) w _ h.row
 have hc5 : (w.setCells g (n * 3) vs).heap[s]? = some (.cells #[lp, .slice (some ⟨g, 0, none⟩) x.st.length c, .int .i64 x.isos, .int .i64 x.embs, .int .i64 x.valid] 212 (0, 0)) := by rw [h2.block s hlt (by simpa using hgs.symm)]; exact h.cell
 have h4 := own_take h1 n (by omega)
 rw [take_same _ _ (n * 3) h3, entsV_take] at h4
 refine ⟨⟨by rw [Joins.block_setCell hc5]; rfl, ?_, h.low⟩, ⟨h2.os, h2.tape, h2.output, by have := h2.size; simpa using this, ?_, .inl rfl⟩, heap_cell hc5 1, heap_free hc5 1⟩
 ·have := row_set h4 (s := s) (by simpa [Value.ownBlock] using hgs) 1 (.slice (some ⟨g, 0, none⟩) n c)
  simpa [Nat.min_eq_left (Nat.le_of_lt hn)] using this
 ·intro k hk hks hkv
  rw [Below.heap_setCell]
  ·exact h2.block k hk (fun e => hkv (by rw [e]; rfl))
  ·exact hks
set_option maxRecDepth 100000 in
set_option maxHeartbeats 4000000 in
theorem cutE_in (w : World) (B s : Nat) (v lp : Value) (x : XS) (n : Nat) (h : WAt w B s v lp x) (hn : n < x.st.length) (hl : x.st.length ≤ 1000000) : Calls Tryz.prog 264 #[.pointer (some ⟨s, 1, none⟩), .int .i64 n] w fun e w' => e = .returned (.tuple #[]) ∧ ∃ v', WAt w' B s v' lp { x with st := x.st.take n } ∧ FrS w w' s v v' := by
 obtain ⟨g, c, rfl, hcap, hgw, hgB⟩ := own_some h.row (by omega)
 have c0 : w.cell? ⟨s, 1, none⟩ = some (.slice (some ⟨g, 0, none⟩) x.st.length c) := heap_cell h.cell 1
 have f0 : w.frozen? ⟨s, 1, none⟩ = false := heap_free h.cell 1
 have hclr := run_clear_ents w 0 g (n * 3) (x.st.length - n) (c - n) (by omega) (fun j hj => by
   rw [World.ownsRow.cellAt h.row (n * 3 + j) (by omega)]
   have : n * 3 + j < (entsV x.st).length := by rw [entsV_length]; omega
   rw [List.getElem?_eq_getElem this]; rfl) (fun j _ => World.ownsRow.frozenAt h.row (n * 3 + j))
 have hncap : n ≤ c := by omega
 have hni : ((n : Int) < (x.st.length : Int)) := by omega
 obtain ⟨hS, hF, c5, f5⟩ := h.cut (vs := (Builtin.zeroCells #[.int .i64 0, .int .i64 0, .bool false] (x.st.length - n)).toList) hn
 have HS : Hid _ := hS
 have HF : Hid _ := hF
 clear h hS hF
 generalize w.setCells g (n * 3) (Builtin.zeroCells #[.int .i64 0, .int .i64 0, .bool false] (x.st.length - n)).toList = Wc at *
 generalize x.st.length = L at *
 go_enter Tryz.func264, Tryz.ntmps264
 go_wp2
 go_end0
 exact ⟨rfl, _, HS.out, HF.out⟩
theorem WAt.below {w w' : World} {B s : Nat} {v lp : Value} {x : XS} (h : WAt w B s v lp x) (hb : Below w.heap.size w w') : WAt w' B s v lp x := ⟨by rw [hb.block s (heap_lt h.cell)]; exact h.cell, own_below h.row hb, h.low⟩
theorem FrS.pre {w w2 w3 : World} {s : Nat} {v v' : Value} (hb : Below w.heap.size w w2) (h : FrS w2 w3 s v v') : FrS w w3 s v v' :=
 ⟨h.os.trans hb.os, h.tape.trans hb.tape, h.output.trans hb.output, Nat.le_trans hb.size h.size, fun k hk hks hkv => by rw [h.block k (Nat.lt_of_lt_of_le hk hb.size) hks hkv]; exact hb.block k hk, by
  rcases h.own with h | h
  ·exact .inl h
  ·exact .inr fun k hk => Nat.le_trans hb.size (h k hk)⟩
theorem FrS.post {w w3 w4 : World} {s : Nat} {v v' : Value} (h : FrS w w3 s v v') (hb : Below w.heap.size w3 w4) : FrS w w4 s v v' :=
 ⟨hb.os.trans h.os, hb.tape.trans h.tape, hb.output.trans h.output, Nat.le_trans h.size hb.size, fun k hk hks hkv => by rw [hb.block k hk]; exact h.block k hk hks hkv, h.own⟩
theorem WAt.setOther {w : World} {B s g : Nat} {v lp : Value} {x : XS} (h : WAt w B s v lp x) (hgs : g ≠ s) (hgv : v.ownBlock ≠ some g) (k : Nat) (u : Value) : WAt (w.setCell ⟨g, k, none⟩ u) B s v lp x :=
 ⟨by
  rw [Below.heap_setCell]
  ·exact h.cell
  ·exact hgs.symm, row_set h.row hgv k u, h.low⟩
set_option maxRecDepth 100000 in
set_option maxHeartbeats 4000000 in
theorem popE_some (w : World) (B s : Nat) (v lp : Value) (x : XS) (st : List Ent) (e : Ent) (h : WAt w B s v lp x) (hst : x.st = st ++ [e]) (hl : st.length ≤ 100000) : Calls Tryz.prog 237 #[.pointer (some ⟨s, 1, none⟩)] w fun ev w' => ev = .returned (.tuple #[.agg #[.int .i64 e.l, .int .i64 e.o, .bool e.i], .bool true]) ∧ ∃ v', WAt w' B s v' lp { x with st := st } ∧ FrS w w' s v v' := by
 have hlen : x.st.length = st.length + 1 := by rw [hst]; simp
 obtain ⟨a, c, rfl⟩ := own_form h.row
 have hsl := heap_lt h.cell
 have HAt : Hid (∀ W, Below w.heap.size w W → Calls Tryz.prog 263 #[.pointer (some ⟨s, 1, none⟩), .int .i64 st.length] W fun ev w' => ev = .returned (.tuple #[.agg #[.int .i64 e.l, .int .i64 e.o, .bool e.i], .bool true]) ∧ Below W.heap.size W w') := fun W hb =>
  atE_in W B s _ lp x st.length e (h.below hb) (by rw [hst]; simp)
 have HCut : Hid (∀ W, Below w.heap.size w W → Calls Tryz.prog 264 #[.pointer (some ⟨s, 1, none⟩), .int .i64 st.length] W fun ev w' => ev = .returned (.tuple #[]) ∧ ∃ v', WAt w' B s v' lp { x with st := st } ∧ FrS W w' s (.slice a x.st.length c) v') := fun W hb => by
  have := cutE_in W B s _ lp x st.length (h.below hb) (by omega) (by omega)
  rw [show x.st.take st.length = st by rw [hst]; simp] at this
  exact this
 have HC : Hid (∀ W, Below w.heap.size w W → W.cell? ⟨s, 1, none⟩ = some (.slice a (st.length + 1) c)) := fun W hb => by
  rw [← hlen]; exact heap_cell (h.below hb).cell 1
 have HNE : Hid (∀ k, w.heap.size ≤ k → (Value.slice a x.st.length c).ownBlock ≠ some k) := by
  intro k hk e'
  have := own_lt h.row _ e'
  omega
 have c1 := HC.out (w.alloc (.cells #[.int .i64 0, .int .i64 0, .bool false] 215)) ((Below.refl _ _).alloc (Nat.le_refl _) _)
 clear h hst hlen
 obtain ⟨el, eo, ei⟩ := e
 simp only at HAt ⊢
 generalize st.length = L at *
 go_enter Tryz.func237, Tryz.ntmps237
 go_wp2_with fail
 refine (HAt.out _ ((Below.refl _ _).alloc (Nat.le_refl _) _)).mono ?_
 rintro ev w2 ⟨rfl, hb2⟩
 have hB2 : Below w.heap.size w w2 := ((Below.refl _ _).alloc (Nat.le_refl _) _).trans (hb2.mono (by simp))
 have hz : w.heap.size < w2.heap.size := by have := hb2.size; simp at this; omega
 obtain ⟨hc2, hf2⟩ := bcell hb2
 have k0 := (hc2 w.heap.size 0 (by simp)).trans (show _ = some (.int .i64 0) by simp)
 have k1 := (hc2 w.heap.size 1 (by simp)).trans (show _ = some (.int .i64 0) by simp)
 have k2 := (hc2 w.heap.size 2 (by simp)).trans (show _ = some (.bool false) by simp)
 have f0 := (hf2 w.heap.size 0 (by simp)).trans (show _ = false by simp)
 have f1 := (hf2 w.heap.size 1 (by simp)).trans (show _ = false by simp)
 have f2 := (hf2 w.heap.size 2 (by simp)).trans (show _ = false by simp)
 have c2 := HC.out (w2.alloc (.cells #[.int .i64 el, .int .i64 eo, .bool ei] 215)) (hB2.alloc hB2.size _)
 have HB2 : Hid (Below w.heap.size w w2) := hB2
 clear hc2 hf2 hb2 c1 HAt hB2
 go_wp2_with fail
 refine (HCut.out _ (HB2.out.alloc HB2.out.size _)).mono ?_
 rintro ev w3 ⟨rfl, v', hS, hF⟩
 have hb3 : ∀ g k : Nat, g < w2.heap.size + 1 → w.heap.size ≤ g → w3.cell? ⟨g, k, none⟩ = (w2.alloc (.cells #[.int .i64 el, .int .i64 eo, .bool ei] 215)).cell? ⟨g, k, none⟩ ∧ w3.frozen? ⟨g, k, none⟩ = (w2.alloc (.cells #[.int .i64 el, .int .i64 eo, .bool ei] 215)).frozen? ⟨g, k, none⟩ := fun g k hg hgw => by
  have := hF.block g (by simpa using hg) (by omega) (HNE.out g hgw)
  exact ⟨by simp only [World.cell?, this], by simp only [World.frozen?, this]⟩
 have q0 : w3.cell? ⟨w2.heap.size, 0, none⟩ = some (.int .i64 el) := (hb3 _ 0 (by omega) (by omega)).1.trans (by simp)
 have q1 : w3.cell? ⟨w2.heap.size, 1, none⟩ = some (.int .i64 eo) := (hb3 _ 1 (by omega) (by omega)).1.trans (by simp)
 have q2 : w3.cell? ⟨w2.heap.size, 2, none⟩ = some (.bool ei) := (hb3 _ 2 (by omega) (by omega)).1.trans (by simp)
 have r0 : w3.cell? ⟨w.heap.size, 0, none⟩ = some (.int .i64 0) := ((hb3 _ 0 (by omega) (by omega)).1.trans (World.cell?_alloc_lt _ _ ⟨w.heap.size, 0, none⟩ hz)).trans k0
 have r1 : w3.cell? ⟨w.heap.size, 1, none⟩ = some (.int .i64 0) := ((hb3 _ 1 (by omega) (by omega)).1.trans (World.cell?_alloc_lt _ _ ⟨w.heap.size, 1, none⟩ hz)).trans k1
 have r2 : w3.cell? ⟨w.heap.size, 2, none⟩ = some (.bool false) := ((hb3 _ 2 (by omega) (by omega)).1.trans (World.cell?_alloc_lt _ _ ⟨w.heap.size, 2, none⟩ hz)).trans k2
 have hfz : ∀ k, w3.frozen? ⟨w.heap.size, k, none⟩ = w2.frozen? ⟨w.heap.size, k, none⟩ := fun k => (hb3 _ k (by omega) (by omega)).2.trans (((Below.refl w2.heap.size w2).alloc (Nat.le_refl _) _).frozen (p := ⟨w.heap.size, k, none⟩) hz)
 have g0 := (hfz 0).trans f0
 have g1 := (hfz 1).trans f1
 have g2 := (hfz 2).trans f2
 have hvn : v'.ownBlock ≠ some w.heap.size := by
  rcases hF.own with h | h
  ·rw [h]; exact HNE.out _ (Nat.le_refl _)
  ·intro e; have := h _ e; simp at this; omega
 have hsn : w.heap.size ≠ s := by omega
 have hne3 : w.heap.size ≠ w2.heap.size := by omega
 have HS : Hid _ := ((hS.setOther hsn hvn 0 (.int .i64 el)).setOther hsn hvn 1 (.int .i64 eo)).setOther hsn hvn 2 (.bool ei)
 have HF : Hid _ := (FrS.pre (HB2.out.alloc HB2.out.size _) hF).post ((((Below.refl w.heap.size w3).setCell (p := ⟨w.heap.size, 0, none⟩) (Nat.le_refl _) (.int .i64 el)).setCell (p := ⟨w.heap.size, 1, none⟩) (Nat.le_refl _) (.int .i64 eo)).setCell (p := ⟨w.heap.size, 2, none⟩) (Nat.le_refl _) (.bool ei))
 clear hS hF hfz hb3 k0 k1 k2 f0 f1 f2 c2 HC HCut HB2
 go_wp2
 refine bodyPost_ret (v := .tuple #[.agg #[.int .i64 el, .int .i64 eo, .bool ei], .bool true]) (by simp [results, Tryz.results237, Tryz.isAgg215, Tryz.sizeOf215, go_sem, r0, r1, r2]) rfl ⟨rfl, _, HS.out, HF.out⟩
end Go.Proofs.YtkbinfhclaafhaaGreatDoor
