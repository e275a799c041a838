import Derived.Test.YtkbinfhclaafhaaGreatDoorT02
import Derived.Deep.QuietTactic
import Derived.BigQuiet
namespace Go.Proofs.YtkbinfhclaafhaaGreatDoor
open Go.RowKit
theorem belowDN {B : Nat} {a w : World} (h : Below B a w) (n : Nat) : Below B a (w.drewN n) := ⟨h.os, h.tape, h.output, h.size, h.block⟩
def showS : ByteArray := { data := #[97, 32, 215, 144, 215, 145, 32, 98] }
set_option maxRecDepth 100000 in
theorem show_err : askErr showS = 0 := by decide +kernel
set_option maxRecDepth 100000 in
theorem show_runes : askRunes showS = [97, 32, 1488, 1489, 32, 98] := by decide +kernel
set_option maxRecDepth 100000 in
theorem show_lev : levelsL [97, 32, 1488, 1489, 32, 98] ([97, 32, 1488, 1489, 32, 98].map cls) 2 = [0, 0, 1, 1, 0, 0] := by decide +kernel
set_option maxRecDepth 100000 in
theorem show_ord : ordR [0, 0, 1, 1, 0, 0] = [0, 1, 3, 2, 4, 5] := by decide +kernel
theorem show_line : lineL showS 2 = [0, 0, 1, 1, 0, 0] := by rw [lineL, if_pos show_err, show_runes, show_lev]
theorem show_lineO : lineO showS 2 = [0, 1, 3, 2, 4, 5] := by rw [lineO, show_line, show_ord]
theorem ints_lit {w : World} {l : List Int} {t : TypeId} : IntsAt (w.alloc (.cells (iv l).toArray t)) w.heap.size 0 l := fun k hk => by
 rw [Nat.zero_add]
 have hh : (w.alloc (.cells (iv l).toArray t)).heap[w.heap.size]? = some (.cells (iv l).toArray t (0, 0)) := Array.getElem?_push_size
 rw [heap_cell hh k]
 simp [iv, List.getD_eq_getElem?_getD, List.getElem?_eq_getElem hk]
set_option maxRecDepth 100000 in
set_option maxHeartbeats 8000000 in
theorem shows_any (w : World) (aL aT aC : Addr) (hE : Env w aL aT aC) (hBr : Br w) : Calls Tryz.prog 14 #[] w fun e w' => e = .returned (.bool true) ∧ Below w.heap.size w w' := by
 have HL : Hid (∀ W, Below w.heap.size w W → Calls Tryz.prog 19 #[.string showS, .int .i64 2] W fun e w' => ∃ g c, e = .returned (.tuple #[.slice (some ⟨g, 0, none⟩) 6 c, .agg #[.int .i64 0, .int .i64 0, .int .i64 0]]) ∧ IntsAt w' g 0 [0, 0, 1, 1, 0, 0] ∧ Below W.heap.size W w') := fun W hW => by
  refine (plainLevels_any showS 2 W aL aT aC (by decide) (hE.below hW) (hBr.below hW)).mono ?_
  rintro e w' ⟨v, rfl, ho, _, hb⟩
  rw [show_line] at ho
  obtain ⟨g, c, rfl, _, _, _⟩ := own_some ho (by decide)
  exact ⟨g, c, by rw [show_err]; rfl, fun k hk => by rw [Nat.zero_add]; exact own_icell ho k hk, hb⟩
 have HO : Hid (∀ W, Below w.heap.size w W → Calls Tryz.prog 20 #[.string showS, .int .i64 2] W fun e w' => ∃ g c, e = .returned (.tuple #[.slice (some ⟨g, 0, none⟩) 6 c, .agg #[.int .i64 0, .int .i64 0, .int .i64 0]]) ∧ IntsAt w' g 0 [0, 1, 3, 2, 4, 5] ∧ Below W.heap.size W w') := fun W hW => by
  refine (plainOrder_any showS 2 W aL aT aC (by decide) (hE.below hW) (hBr.below hW)).mono ?_
  rintro e w' ⟨v, rfl, ho, _, hb⟩
  rw [show_lineO] at ho
  obtain ⟨g, c, rfl, _, _, _⟩ := own_some ho (by decide)
  exact ⟨g, c, by rw [show_err]; rfl, fun k hk => by rw [Nat.zero_add]; exact own_icell ho k hk, hb⟩
 unfold showS at HL HO
 clear hE hBr
 go_enter Tryz.func14, Tryz.ntmps14
 go_wp2_with fail
 refine (HL.out _ (Below.refl _ _)).mono ?_
 rintro ev w1 ⟨g1, c1, rfl, hi1, hb1⟩
 have hB1 : Below w.heap.size w (w1.alloc (.cells #[.int .i64 0, .int .i64 0, .int .i64 0] 33)) := hb1.alloc hb1.size _
 have hi1' : IntsAt (w1.alloc (.cells #[.int .i64 0, .int .i64 0, .int .i64 0] 33)) g1 0 [0, 0, 1, 1, 0, 0] := hi1.below ((Below.refl _ _).alloc (Nat.le_refl _) _)
 have hf1 : (w1.alloc (.cells #[.int .i64 0, .int .i64 0, .int .i64 0] 33)).heap[w1.heap.size]? = some (.cells #[.int .i64 0, .int .i64 0, .int .i64 0] 33 (0, 0)) := Array.getElem?_push_size
 have H1 : Hid (Below w.heap.size w (w1.alloc (.cells #[.int .i64 0, .int .i64 0, .int .i64 0] 33)) ∧ IntsAt (w1.alloc (.cells #[.int .i64 0, .int .i64 0, .int .i64 0] 33)) g1 0 [0, 0, 1, 1, 0, 0] ∧ (w1.alloc (.cells #[.int .i64 0, .int .i64 0, .int .i64 0] 33)).heap[w1.heap.size]? = some (.cells #[.int .i64 0, .int .i64 0, .int .i64 0] 33 (0, 0))) := ⟨hB1, hi1', hf1⟩
 clear hi1 hb1 hB1 hi1' hf1 HL
 obtain ⟨f1, hf1⟩ : ∃ f1, f1 = w1.heap.size := ⟨_, rfl⟩
 go_wp2_with fail
 generalize (w1.alloc (.cells #[.int .i64 0, .int .i64 0, .int .i64 0] 33)) = W1 at *
 rw [← hf1] at H1 ⊢
 clear hf1
 refine (HO.out W1 H1.out.1).mono ?_
 rintro ev w2 ⟨g2, c2, rfl, hi2, hb2⟩
 have hbb : Below w2.heap.size w2 (((w2.alloc (.cells #[.int .i64 0, .int .i64 0, .int .i64 0] 33)).alloc (.cells #[.int .i64 0, .int .i64 1, .int .i64 3, .int .i64 2, .int .i64 4, .int .i64 5] 3)).alloc (.cells #[.int .i64 0, .int .i64 0, .int .i64 1, .int .i64 1, .int .i64 0, .int .i64 0] 3)) := (((Below.refl _ _).alloc (Nat.le_refl _) _).alloc (by simp) _).alloc (by simp; omega) _
 have H2 : Hid (Below w.heap.size w (((w2.alloc (.cells #[.int .i64 0, .int .i64 0, .int .i64 0] 33)).alloc (.cells #[.int .i64 0, .int .i64 1, .int .i64 3, .int .i64 2, .int .i64 4, .int .i64 5] 3)).alloc (.cells #[.int .i64 0, .int .i64 0, .int .i64 1, .int .i64 1, .int .i64 0, .int .i64 0] 3)) ∧
   IntsAt (((w2.alloc (.cells #[.int .i64 0, .int .i64 0, .int .i64 0] 33)).alloc (.cells #[.int .i64 0, .int .i64 1, .int .i64 3, .int .i64 2, .int .i64 4, .int .i64 5] 3)).alloc (.cells #[.int .i64 0, .int .i64 0, .int .i64 1, .int .i64 1, .int .i64 0, .int .i64 0] 3)) g1 0 [0, 0, 1, 1, 0, 0] ∧
   IntsAt (((w2.alloc (.cells #[.int .i64 0, .int .i64 0, .int .i64 0] 33)).alloc (.cells #[.int .i64 0, .int .i64 1, .int .i64 3, .int .i64 2, .int .i64 4, .int .i64 5] 3)).alloc (.cells #[.int .i64 0, .int .i64 0, .int .i64 1, .int .i64 1, .int .i64 0, .int .i64 0] 3)) g2 0 [0, 1, 3, 2, 4, 5] ∧
   IntsAt (((w2.alloc (.cells #[.int .i64 0, .int .i64 0, .int .i64 0] 33)).alloc (.cells #[.int .i64 0, .int .i64 1, .int .i64 3, .int .i64 2, .int .i64 4, .int .i64 5] 3)).alloc (.cells #[.int .i64 0, .int .i64 0, .int .i64 1, .int .i64 1, .int .i64 0, .int .i64 0] 3)) (w2.heap.size + 1) 0 [0, 1, 3, 2, 4, 5] ∧
   IntsAt (((w2.alloc (.cells #[.int .i64 0, .int .i64 0, .int .i64 0] 33)).alloc (.cells #[.int .i64 0, .int .i64 1, .int .i64 3, .int .i64 2, .int .i64 4, .int .i64 5] 3)).alloc (.cells #[.int .i64 0, .int .i64 0, .int .i64 1, .int .i64 1, .int .i64 0, .int .i64 0] 3)) (w2.heap.size + 1 + 1) 0 [0, 0, 1, 1, 0, 0]) := by
  have z1 : (w2.alloc (.cells #[.int .i64 0, .int .i64 0, .int .i64 0] 33)).heap.size = w2.heap.size + 1 := by simp
  have z2 : ((w2.alloc (.cells #[.int .i64 0, .int .i64 0, .int .i64 0] 33)).alloc (.cells #[.int .i64 0, .int .i64 1, .int .i64 3, .int .i64 2, .int .i64 4, .int .i64 5] 3)).heap.size = w2.heap.size + 1 + 1 := by simp
  refine ⟨(H1.out.1.trans (hb2.mono H1.out.1.size)).trans (hbb.mono (by have := H1.out.1.size; have := hb2.size; omega)), (H1.out.2.1.below hb2).below hbb, hi2.below hbb, ?_, ?_⟩
  ·rw [← z1]
   exact (ints_lit (l := [0, 1, 3, 2, 4, 5])).below ((Below.refl _ _).alloc (Nat.le_refl _) _)
  ·rw [← z2]
   exact ints_lit (l := [0, 0, 1, 1, 0, 0])
 have hfz : w2.heap[f1]? = some (.cells #[.int .i64 0, .int .i64 0, .int .i64 0] 33 (0, 0)) := heap_keep hb2 H1.out.2.2
 have k1 : (((w2.alloc (.cells #[.int .i64 0, .int .i64 0, .int .i64 0] 33)).alloc (.cells #[.int .i64 0, .int .i64 1, .int .i64 3, .int .i64 2, .int .i64 4, .int .i64 5] 3)).alloc (.cells #[.int .i64 0, .int .i64 0, .int .i64 1, .int .i64 1, .int .i64 0, .int .i64 0] 3)).cell? ⟨f1, 0, none⟩ = some (.int .i64 0) := heap_cell (heap_keep hbb hfz) 0
 clear hbb hfz hi2 hb2 H1 HO
 obtain ⟨gw, hgw⟩ : ∃ gw, gw = w2.heap.size + 1 := ⟨_, rfl⟩
 obtain ⟨gh, hgh⟩ : ∃ gh, gh = w2.heap.size + 1 + 1 := ⟨_, rfl⟩
 go_wp2
 generalize (((w2.alloc (.cells #[.int .i64 0, .int .i64 0, .int .i64 0] 33)).alloc (.cells #[.int .i64 0, .int .i64 1, .int .i64 3, .int .i64 2, .int .i64 4, .int .i64 5] 3)).alloc (.cells #[.int .i64 0, .int .i64 0, .int .i64 1, .int .i64 1, .int .i64 0, .int .i64 0] 3)) = W2 at *
 rw [← hgh, ← hgw] at H2 ⊢
 clear hgw hgh k1
 go_loopg [7] 6 (fun gk iv' W => ∃ i : Nat, i ≤ 6 ∧ gk = 6 - i ∧ iv' = .int .i64 i ∧ Below w.heap.size w W ∧ IntsAt W g1 0 [0, 0, 1, 1, 0, 0] ∧ IntsAt W g2 0 [0, 1, 3, 2, 4, 5] ∧ IntsAt W gw 0 [0, 1, 3, 2, 4, 5] ∧ IntsAt W gh 0 [0, 0, 1, 1, 0, 0])
 case atStart => exact ⟨0, by omega, rfl, rfl, H2.out.1, H2.out.2.1, H2.out.2.2.1, H2.out.2.2.2.1, H2.out.2.2.2.2⟩
 case round =>
  clear H2
  obtain ⟨i, hi, rfl, rfl, hb, h1, h2, h3, h4⟩ := hrel
  by_cases hlt : i < 6
  ·have d1 := h1 i (by simpa using hlt)
   have d2 := h2 i (by simpa using hlt)
   have d3 := h3 i (by simpa using hlt)
   have d4 := h4 i (by simpa using hlt)
   rw [Nat.zero_add] at d1 d2 d3 d4
   have HF : Hid (Below w.heap.size w wr ∧ IntsAt wr g1 0 [0, 0, 1, 1, 0, 0] ∧ IntsAt wr g2 0 [0, 1, 3, 2, 4, 5] ∧ IntsAt wr gw 0 [0, 1, 3, 2, 4, 5] ∧ IntsAt wr gh 0 [0, 0, 1, 1, 0, 0]) := ⟨hb, h1, h2, h3, h4⟩
   clear hb h1 h2 h3 h4
   generalize List.getD [0, 0, 1, 1, 0, 0] i (0 : Int) = x at *
   generalize List.getD [0, 1, 3, 2, 4, 5] i (0 : Int) = y at *
   have hx : (x != x) = false := by simp
   have hy : (y != y) = false := by simp
   have hi6 : (i : Int) < 6 := by omega
   go_wp2
   go_quiet (fail)
   all_goals
    go_wp2
    go_roundg (6 - (i + 1))
    case measure => omega
    case rel => exact ⟨i + 1, by omega, rfl, by go_num, belowDN HF.out.1 _, HF.out.2.1, HF.out.2.2.1, HF.out.2.2.2.1, HF.out.2.2.2.2⟩
  ·have hi6 : ¬ (i : Int) < 6 := by omega
   have HB : Hid (Below w.heap.size w wr) := hb
   clear hb h1 h2 h3 h4
   go_wp2
   go_ret
   exact ⟨rfl, HB.out⟩
end Go.Proofs.YtkbinfhclaafhaaGreatDoor
namespace Go.Proofs.YtkbinfhclaafhaaGreatDoor
open Go.RowKit
theorem lineL_bd1 (s : ByteArray) : ∀ x ∈ lineL s 1, 1 ≤ x := by
 intro x hx
 unfold lineL at hx
 split at hx
 ·have hp : paraL ((askRunes s).map cls) 1 = 1 := rfl
  have := levels_bd (cs := (askRunes s).map cls) (fun c hc => by obtain ⟨r, _, rfl⟩ := List.mem_map.1 hc; exact cls_bd r) (askRunes s) 1 (by rw [hp]; omega) x hx
  rw [hp] at this
  omega
 ·cases hx
theorem idL_get (n i : Nat) (hi : i < n) : (idL n).getD i 0 = (i : Int) := by
 rw [idL, range_getD _ _ _ _ hi]
theorem idL_rev (n i : Nat) (hi : i < n) : (idL n).reverse.getD i 0 = ((n - 1 - i : Nat) : Int) := by
 rw [List.getD_eq_getElem?_getD, List.getElem?_reverse (by rw [idL_length]; exact hi), idL_length, ← List.getD_eq_getElem?_getD, idL_get _ _ (by omega)]
theorem idL_nodup (n : Nat) : (idL n).Nodup := by
 unfold idL
 exact List.Pairwise.map _ (fun a b h e => h (by omega)) List.nodup_range
structure TF (LV OV : List Int) (n : Nat) (d : Nat) : Prop where
 ll : LV.length = n
 ol : OV.length = n
 small : n ≤ 300
 bd : ∀ l ∈ LV, 0 ≤ l ∧ l ≤ 126
 one : d = 1 → ∀ l ∈ LV, 1 ≤ l
 perm : OV.Perm (idL n)
 flat : (∀ l ∈ LV, l = 0) → OV = idL n
 rev : (∀ l ∈ LV, l = 1) → OV = (idL n).reverse
theorem tf_of (s : ByteArray) (d : Nat) : TF (lineL s d) (lineO s d) (lineL s d).length d := by
 refine ⟨rfl, lineO_len s d, lineQ_len s d, lineL_bd s d, fun h => ?_, ordR_perm _, fun h => ordR_flat h, fun h => ?_⟩
 ·subst h; exact lineL_bd1 s
 ·by_cases hne : lineL s d = []
  ·rw [lineO, hne]; rfl
  ·exact ordR_one h hne
def SeenTo (OV : List Int) (n i : Nat) (sn : List Bool) : Prop := sn.length = n ∧ ∀ p, p < n → sn.getD p false = decide ((p : Int) ∈ OV.take i)
theorem SeenTo.start (OV : List Int) (n : Nat) : SeenTo OV n 0 (List.replicate n false) := ⟨by simp, fun p hp => by rw [List.getD_eq_getElem?_getD, List.getElem?_replicate, if_pos hp]; simp⟩
theorem SeenTo.next {OV : List Int} {n i p : Nat} {sn : List Bool} (h : SeenTo OV n i sn) (hi : i < OV.length) (hp : p < n) (he : OV.getD i 0 = (p : Int)) : SeenTo OV n (i + 1) (sn.set p true) := by
 have ht : OV.take (i + 1) = OV.take i ++ [(p : Int)] := by
  rw [List.take_add_one, List.getElem?_eq_getElem hi, ← he, List.getD_eq_getElem?_getD, List.getElem?_eq_getElem hi]; rfl
 refine ⟨by rw [List.length_set]; exact h.1, fun q hq => ?_⟩
 rw [ht]
 by_cases hqp : p = q
 ·subst hqp
  rw [List.getD_eq_getElem?_getD, List.getElem?_set_self (by rw [h.1]; exact hp)]
  simp
 ·rw [List.getD_eq_getElem?_getD, List.getElem?_set_ne hqp, ← List.getD_eq_getElem?_getD, h.2 q hq]
  have : ¬ (q : Int) = (p : Int) := by omega
  simp [this]
theorem SeenTo.new {OV : List Int} {n i p : Nat} {sn : List Bool} (h : SeenTo OV n i sn) (hO : OV.Perm (idL n)) (hi : i < n) (hp : p < n) (he : OV.getD i 0 = (p : Int)) : sn.getD p false = false := by
 rw [h.2 p hp]
 have hnd : OV.Nodup := hO.nodup_iff.2 (idL_nodup n)
 have hl : i < OV.length := by rw [hO.length_eq, idL_length]; exact hi
 simp only [decide_eq_false_iff_not]
 intro hm
 have ht : OV.take (i + 1) = OV.take i ++ [(p : Int)] := by
  rw [List.take_add_one, List.getElem?_eq_getElem hl, ← he, List.getD_eq_getElem?_getD, List.getElem?_eq_getElem hl]; rfl
 have h2 : (OV.take (i + 1)).Nodup := hnd.sublist (List.take_sublist _ _)
 rw [ht, List.nodup_append] at h2
 exact h2.2.2 _ hm _ (by simp) rfl
structure LoHi (LV : List Int) (i : Nat) (lo hi : Int) : Prop where
 all : ∀ l ∈ LV.take i, lo ≤ l ∧ l ≤ hi
 lo : lo = 200 ∨ lo ∈ LV
 hi : hi = 0 ∨ hi ∈ LV
theorem LoHi.next {LV : List Int} {i : Nat} {lo hi : Int} (h : LoHi LV i lo hi) (hi' : i < LV.length) : LoHi LV (i + 1) (if LV.getD i 0 < lo then LV.getD i 0 else lo) (if hi < LV.getD i 0 then LV.getD i 0 else hi) := by
 have hm := getD_mem (d := 0) hi'
 have ht : LV.take (i + 1) = LV.take i ++ [LV.getD i 0] := by
  rw [List.take_add_one, List.getElem?_eq_getElem hi', List.getD_eq_getElem?_getD, List.getElem?_eq_getElem hi']; rfl
 refine ⟨fun l hl => ?_, ?_, ?_⟩
 ·rw [ht] at hl
  rcases List.mem_append.1 hl with hl | hl
  ·have := h.all l hl
   split <;> split <;> omega
  ·have e : l = LV.getD i 0 := List.mem_singleton.1 hl
   rw [e]
   split <;> split <;> omega
 ·split
  ·exact .inr hm
  ·exact h.lo
 ·split
  ·exact .inr hm
  ·exact h.hi
theorem bv_get (l : List Bool) (k : Nat) (hk : k < l.length) : (bv l)[k]? = some (.bool (l.getD k false)) := by
 simp [bv, List.getD_eq_getElem?_getD, List.getElem?_eq_getElem hk]
set_option maxRecDepth 100000 in
set_option maxHeartbeats 32000000 in
theorem turned_any (o : OpD) (w : World) (aL aT aC : Addr) (hs : o.s.size ≤ 9223372036854775807) (hE : Env w aL aT aC) (hBr : Br w) :
  Calls Tryz.prog 15 #[opV o] w fun e w' => e = .returned (.bool true) ∧ Below w.heap.size w w' := by
 obtain ⟨k, a, s, oe⟩ := o
 simp only at hs
 unfold opV
 obtain ⟨er, m, hfv⟩ : ∃ er m, faultV (askErr s) = .agg #[.int .i64 er, .int .i64 m, .int .i64 m] := ⟨_, _, rfl⟩
 have HPl : Hid (∀ (d : Nat) (W : World), Below w.heap.size w W → Calls Tryz.prog 19 #[.string s, .int .i64 d] W fun e w' => ∃ v, e = .returned (.tuple #[v, .agg #[.int .i64 er, .int .i64 m, .int .i64 m]]) ∧ w'.ownsRow W.heap.size 3 1 v (lineL s d).length (iv (lineL s d)) ∧ Below W.heap.size W w') := fun d W hW => by
  have := plainLevels_any s d W aL aT aC hs (hE.below hW) (hBr.below hW)
  rw [hfv] at this
  exact this.mono fun e w' ⟨v, h1, h2, _, h4⟩ => ⟨v, h1, h2, h4⟩
 have HPo : Hid (∀ (d : Nat) (W : World), Below w.heap.size w W → Calls Tryz.prog 20 #[.string s, .int .i64 d] W fun e w' => ∃ v, e = .returned (.tuple #[v, .agg #[.int .i64 er, .int .i64 m, .int .i64 m]]) ∧ w'.ownsRow W.heap.size 3 1 v (lineL s d).length (iv (lineO s d)) ∧ Below W.heap.size W w') := fun d W hW => by
  have := plainOrder_any s d W aL aT aC hs (hE.below hW) (hBr.below hW)
  rw [hfv, lineO_len] at this
  exact this.mono fun e w' ⟨v, h1, h2, _, h4⟩ => ⟨v, h1, h2, h4⟩
 have HTF : Hid (∀ d : Nat, TF (lineL s d) (lineO s d) (lineL s d).length d) := tf_of s
 have HB0 : Hid (Below w.heap.size w (w.alloc (.cells #[.int .i64 k, .int .i64 a, .string s, oe] 29)) ∧ (w.alloc (.cells #[.int .i64 k, .int .i64 a, .string s, oe] 29)).heap[w.heap.size]? = some (.cells #[.int .i64 k, .int .i64 a, .string s, oe] 29 (0, 0))) := ⟨(Below.refl _ _).alloc (Nat.le_refl _) _, Array.getElem?_push_size⟩
 clear hE hBr hfv hs
 obtain ⟨bx, hbx⟩ : ∃ bx, bx = w.heap.size := ⟨_, rfl⟩
 go_enter Tryz.func15, Tryz.ntmps15
 go_wp2
 generalize w.alloc (.cells #[.int .i64 k, .int .i64 a, .string s, oe] 29) = W0 at *
 have HB1 : Hid (Below w.heap.size w W0 ∧ W0.heap[bx]? = some (.cells #[.int .i64 k, .int .i64 a, .string s, oe] 29 (0, 0))) := by rw [hbx]; exact HB0.out
 rw [← hbx]
 clear HB0 hbx
 go_loopg [3] 3 (fun gk dv W => ∃ d : Nat, d ≤ 3 ∧ gk = 3 - d ∧ dv = .int .i64 d ∧ Below w.heap.size w W ∧ W.heap[bx]? = some (.cells #[.int .i64 k, .int .i64 a, .string s, oe] 29 (0, 0)))
 case atStart => exact ⟨0, by omega, rfl, rfl, HB1.out.1, HB1.out.2⟩
 case round =>
  clear HB1
  obtain ⟨d, hd, rfl, rfl, hb, hx⟩ := hrel
  by_cases hlt : d < 3
  ·have c2 := heap_cell hx 2
   have HX : Hid (wr.heap[bx]? = some (.cells #[.int .i64 k, .int .i64 a, .string s, oe] 29 (0, 0))) := hx
   have HB : Hid (Below w.heap.size w wr) := hb
   have HL1 : Hid (Calls Tryz.prog 19 #[.string s, .int .i64 d] wr fun e w' => ∃ v, e = .returned (.tuple #[v, .agg #[.int .i64 er, .int .i64 m, .int .i64 m]]) ∧ w'.ownsRow wr.heap.size 3 1 v (lineL s d).length (iv (lineL s d)) ∧ Below wr.heap.size wr w') := HPl.out d wr hb
   have HO1 : Hid (∀ (W : World), Below w.heap.size w W → Calls Tryz.prog 20 #[.string s, .int .i64 d] W fun e w' => ∃ v, e = .returned (.tuple #[v, .agg #[.int .i64 er, .int .i64 m, .int .i64 m]]) ∧ w'.ownsRow W.heap.size 3 1 v (lineL s d).length (iv (lineO s d)) ∧ Below W.heap.size W w') := HPo.out d
   have hTF := HTF.out d
   generalize lineO s d = OV at *
   generalize lineL s d = LV at *
   obtain ⟨n, hn⟩ : ∃ n, n = LV.length := ⟨_, rfl⟩
   rw [← hn] at HL1 HO1 hTF
   have hn3 := hTF.small
   have HT : Hid (TF LV OV n d) := hTF
   have hd3 : (d : Int) < 3 := by omega
   clear hb hx hTF hn
   go_wp2_with fail
   refine HL1.out.mono ?_
   rintro ev w1 ⟨v1, rfl, ho1, hb1⟩
   obtain ⟨a1, q1, rfl⟩ := own_form ho1
   have hB1 : Below w.heap.size w (w1.alloc (.cells #[.int .i64 er, .int .i64 m, .int .i64 m] 33)) := (HB.out.trans (hb1.mono HB.out.size)).alloc (by have := HB.out.size; have := hb1.size; omega) _
   have hx1 := heap_keep ((Below.refl _ _).alloc (Nat.le_refl _) (.cells #[.int .i64 er, .int .i64 m, .int .i64 m] 33)) (heap_keep hb1 HX.out)
   have c2b := heap_cell hx1 2
   have H1 : Hid (Below w.heap.size w (w1.alloc (.cells #[.int .i64 er, .int .i64 m, .int .i64 m] 33)) ∧ (w1.alloc (.cells #[.int .i64 er, .int .i64 m, .int .i64 m] 33)).heap[bx]? = some (.cells #[.int .i64 k, .int .i64 a, .string s, oe] 29 (0, 0)) ∧ (w1.alloc (.cells #[.int .i64 er, .int .i64 m, .int .i64 m] 33)).heap[w1.heap.size]? = some (.cells #[.int .i64 er, .int .i64 m, .int .i64 m] 33 (0, 0)) ∧ (w1.alloc (.cells #[.int .i64 er, .int .i64 m, .int .i64 m] 33)).ownsRow wr.heap.size 3 1 (.slice a1 n q1) n (iv LV)) := ⟨hB1, hx1, Array.getElem?_push_size, World.ownsRow.alloc ho1 _⟩
   clear ho1 hb1 hB1 hx1 HL1 c2 HX HB
   obtain ⟨f1, hf1⟩ : ∃ f1, f1 = w1.heap.size := ⟨_, rfl⟩
   go_wp2_with fail
   generalize w1.alloc (.cells #[.int .i64 er, .int .i64 m, .int .i64 m] 33) = W1 at *
   rw [← hf1] at H1 ⊢
   clear hf1 c2b
   refine (HO1.out W1 H1.out.1).mono ?_
   rintro ev w2 ⟨v2, rfl, ho2, hb2⟩
   obtain ⟨a2, q2, rfl⟩ := own_form ho2
   have hb2a : Below w2.heap.size w2 (w2.alloc (.cells #[.int .i64 er, .int .i64 m, .int .i64 m] 33)) := (Below.refl _ _).alloc (Nat.le_refl _) _
   have hB2 : Below w.heap.size w (w2.alloc (.cells #[.int .i64 er, .int .i64 m, .int .i64 m] 33)) := (H1.out.1.trans (hb2.mono H1.out.1.size)).alloc (by have := H1.out.1.size; have := hb2.size; omega) _
   have hx2 := heap_keep hb2a (heap_keep hb2 H1.out.2.1)
   have hf2 := heap_keep hb2a (heap_keep hb2 H1.out.2.2.1)
   have k1 := heap_cell hf2 0
   have hr1 := own_below (own_below H1.out.2.2.2 hb2) hb2a
   have hr2 := own_below ho2 hb2a
   have hmk := run_make_row' (P := Tryz.prog) 36 4 (.bool false) 1 Tryz.underlying36 Tryz.infoBool rfl .i64 .i64 n (by omega) (by omega)
   have hr3 : RowAt ((w2.alloc (.cells #[.int .i64 er, .int .i64 m, .int .i64 m] 33)).alloc (.cells (madeCells #[.bool false] n) 4)) w.heap.size 4 (w2.alloc (.cells #[.int .i64 er, .int .i64 m, .int .i64 m] 33)).heap.size n (bv (List.replicate n false)) := by
    have := RowAt.made (w := (w2.alloc (.cells #[.int .i64 er, .int .i64 m, .int .i64 m] 33))) (B := w.heap.size) (n := n) (e := 4) (z := .bool false) hB2.size (by omega)
    rw [bv, List.map_replicate]
    exact this
   obtain ⟨W2, hW2⟩ : ∃ W2, W2 = w2.alloc (.cells #[.int .i64 er, .int .i64 m, .int .i64 m] 33) := ⟨_, rfl⟩
   have hz2 : W2.heap.size = w2.heap.size + 1 := by rw [hW2]; simp
   rw [← hW2] at hB2 hx2 hr1 hr2 hr3
   have H2 : Hid (Below w.heap.size w W2 ∧ W2.heap[bx]? = some (.cells #[.int .i64 k, .int .i64 a, .string s, oe] 29 (0, 0)) ∧ W2.ownsRow wr.heap.size 3 1 (.slice a1 n q1) n (iv LV) ∧ W2.ownsRow W1.heap.size 3 1 (.slice a2 n q2) n (iv OV)) := ⟨hB2, hx2, hr1, hr2⟩
   have H3 : Hid (RowAt (W2.alloc (.cells (madeCells #[.bool false] n) 4)) w.heap.size 4 W2.heap.size n (bv (List.replicate n false)) ∧ Below W2.heap.size W2 (W2.alloc (.cells (madeCells #[.bool false] n) 4))) := ⟨hr3, (Below.refl _ _).alloc (Nat.le_refl _) _⟩
   obtain ⟨gs, hgs⟩ : ∃ gs, gs = W2.heap.size := ⟨_, rfl⟩
   have HW2 : Hid (W2 = w2.alloc (.cells #[.int .i64 er, .int .i64 m, .int .i64 m] 33) ∧ W2.heap.size = w2.heap.size + 1 ∧ gs = W2.heap.size) := ⟨hW2, hz2, hgs⟩
   clear ho2 hb2 hb2a hB2 hx2 hf2 hr1 hr2 hr3 H1 HO1 hW2 hz2 hgs
   go_wp2
   have H3' : Hid (RowAt (W2.alloc (.cells (madeCells #[.bool false] n) 4)) w.heap.size 4 gs n (bv (List.replicate n false)) ∧ Below W2.heap.size W2 (W2.alloc (.cells (madeCells #[.bool false] n) 4))) := by rw [HW2.out.2.2]; exact H3.out
   rw [← HW2.out.1, show w2.heap.size + 1 = gs by have := HW2.out; omega]
   have HGs : Hid (W2.heap.size ≤ gs) := by have := HW2.out.2.2; show _ ≤ _; omega
   generalize W2.alloc (.cells (madeCells #[.bool false] n) 4) = W3 at *
   clear H3 HW2 k1 hmk
   have HC : Hid (∀ W, Below W2.heap.size W2 W → ∀ i, i < n → ∃ g1 g2, a1 = some ⟨g1, 0, none⟩ ∧ a2 = some ⟨g2, 0, none⟩ ∧ W.cell? ⟨g1, i, none⟩ = some (.int .i64 (LV.getD i 0)) ∧ W.cell? ⟨g2, i, none⟩ = some (.int .i64 (OV.getD i 0))) := fun W hW i hi => by
    have r1 := own_below H2.out.2.2.1 hW
    have r2 := own_below H2.out.2.2.2 hW
    obtain ⟨g1, y1, e1, _, _, _⟩ := own_some r1 (by omega)
    obtain ⟨g2, y2, e2, _, _, _⟩ := own_some r2 (by omega)
    have e1' : a1 = some ⟨g1, 0, none⟩ := (show a1 = some ⟨g1, 0, none⟩ ∧ q1 = y1 by simpa using e1).1
    have e2' : a2 = some ⟨g2, 0, none⟩ := (show a2 = some ⟨g2, 0, none⟩ ∧ q2 = y2 by simpa using e2).1
    subst e1' e2'
    exact ⟨g1, g2, rfl, rfl, own_icell r1 i (by rw [HT.out.ll]; exact hi), own_icell r2 i (by rw [HT.out.ol]; exact hi)⟩
   go_loopg [9, 10, 11] n (fun gk lv hv iv' W => ∃ (i : Nat) (lo hi : Int) (sn : List Bool), i ≤ n ∧ gk = n - i ∧ iv' = .int .i64 i ∧ lv = .int .i64 lo ∧ hv = .int .i64 hi ∧ Below W2.heap.size W2 W ∧ RowAt W w.heap.size 4 gs n (bv sn) ∧ SeenTo OV n i sn ∧ LoHi LV i lo hi)
   case atStart => exact ⟨0, 200, 0, _, by omega, rfl, rfl, rfl, rfl, H3'.out.2, H3'.out.1, SeenTo.start OV n, ⟨fun l hl => by simp at hl, .inl rfl, .inl rfl⟩⟩
   case round =>
    clear H3'
    obtain ⟨i, lo, hi, sn, hin, rfl, rfl, rfl, rfl, hbw, hrow, hsn, hlh⟩ := hrel
    by_cases hi2 : i < n
    ·obtain ⟨g1, g2, e1, e2, cl, co⟩ := HC.out wr hbw i hi2
     subst e1 e2
     obtain ⟨p, hp, hpe⟩ := perm_range HT.out.perm i hi2
     have hnew := hsn.new HT.out.perm hi2 hp hpe
     have HS2 : Hid (SeenTo OV n (i + 1) (sn.set p true)) := hsn.next (by rw [HT.out.ol]; exact hi2) hp hpe
     have hlh2 := hlh.next (by rw [HT.out.ll]; exact hi2)
     have cs := hrow.cell p hp
     rw [bv_get _ _ (by rw [hsn.1]; exact hp), hnew] at cs
     have fs := hrow.frozen p
     rw [hpe] at co
     have hb2 : Below W2.heap.size W2 (wr.setCell ⟨gs, p, none⟩ (.bool true)) := hbw.setCell (p := ⟨gs, p, none⟩) HGs.out _
     have HR2 : Hid (RowAt (wr.setCell ⟨gs, p, none⟩ (.bool true)) w.heap.size 4 gs n (bv (sn.set p true)) ∧ Below W2.heap.size W2 (wr.setCell ⟨gs, p, none⟩ (.bool true))) := ⟨by have := hrow.set p (.bool true); rw [bv_set] at this; exact this, hb2⟩
     obtain ⟨g1', g2', e1, e2, cl2, _⟩ := HC.out _ hb2 i hi2
     obtain rfl : g1 = g1' := by simpa using e1
     have hlm := HT.out.bd _ (getD_mem (d := 0) (show i < LV.length by rw [HT.out.ll]; exact hi2))
     obtain ⟨x, hx⟩ : ∃ x, x = LV.getD i 0 := ⟨_, rfl⟩
     rw [← hx] at cl cl2 hlh2 hlm
     have hin' : (i : Int) < (n : Int) := by omega
     have hp1 : ¬ (p : Int) < 0 := by omega
     have hp2 : ¬ (n : Int) ≤ (p : Int) := by omega
     have hp3 : (p : Int) < (n : Int) := by omega
     clear hbw hrow hsn hlh hpe hnew hb2 e1 e2 hx
     by_cases hxl : x < lo
     ·rw [if_pos hxl] at hlh2
      by_cases hxh : hi < x
      ·rw [if_pos hxh] at hlh2
       have HLH : Hid _ := hlh2
       clear hlh2
       go_wp2
       go_roundg (n - (i + 1))
       case measure => omega
       case rel => exact ⟨i + 1, x, x, _, by omega, rfl, by go_num, rfl, rfl, HR2.out.2, HR2.out.1, HS2.out, HLH.out⟩
      ·rw [if_neg hxh] at hlh2
       have HLH : Hid _ := hlh2
       clear hlh2
       go_wp2
       go_roundg (n - (i + 1))
       case measure => omega
       case rel => exact ⟨i + 1, x, hi, _, by omega, rfl, by go_num, rfl, rfl, HR2.out.2, HR2.out.1, HS2.out, HLH.out⟩
     ·rw [if_neg hxl] at hlh2
      by_cases hxh : hi < x
      ·rw [if_pos hxh] at hlh2
       have HLH : Hid _ := hlh2
       clear hlh2
       go_wp2
       go_roundg (n - (i + 1))
       case measure => omega
       case rel => exact ⟨i + 1, lo, x, _, by omega, rfl, by go_num, rfl, rfl, HR2.out.2, HR2.out.1, HS2.out, HLH.out⟩
      ·rw [if_neg hxh] at hlh2
       have HLH : Hid _ := hlh2
       clear hlh2
       go_wp2
       go_roundg (n - (i + 1))
       case measure => omega
       case rel => exact ⟨i + 1, lo, hi, _, by omega, rfl, by go_num, rfl, rfl, HR2.out.2, HR2.out.1, HS2.out, HLH.out⟩
    ·obtain rfl : i = n := by omega
     have hall := hlh.all
     rw [List.take_of_length_le (by rw [HT.out.ll]; exact Nat.le_refl _)] at hall
     have l0 : ¬ lo < 0 := by
      rcases hlh.lo with h | h
      ·omega
      ·have := HT.out.bd _ h; omega
     have l1 : d = 1 → ¬ lo < 1 := fun h1 => by
      rcases hlh.lo with h | h
      ·omega
      ·have := HT.out.one h1 _ h; omega
     have h0 : ¬ 127 < hi := by
      rcases hlh.hi with h | h
      ·omega
      ·have := HT.out.bd _ h; omega
     have HZ : Hid (hi = 0 → OV = idL i) := fun hz => HT.out.flat fun l hl => by have := hall l hl; have := HT.out.bd l hl; omega
     have HO : Hid (lo = 1 → hi = 1 → OV = (idL i).reverse) := fun h1 h2 => HT.out.rev fun l hl => by have := hall l hl; omega
     have HB : Hid (Below W2.heap.size W2 wr) := hbw
     have hi2' : ¬ (i : Int) < (i : Int) := by omega
     clear hbw hrow hsn hlh hall hi2 hin
     obtain ⟨Wq, hWq⟩ : ∃ Wq, Wq = wr := ⟨_, rfl⟩
     subst hWq
     by_cases hn0 : 0 < i
     ·have hn0' : (0 : Int) < (i : Int) := by omega
      by_cases hd1 : d = 1
      ·have hd1' : ((d : Int) == 1) = true := by simp [hd1]
       have l1' := l1 hd1
       clear l1 hd1
       go_wp2
       clear l0 h0 l1' hd1' hn0'
       go_loopg [13] i (fun gk jv W => ∃ j : Nat, j ≤ i ∧ gk = i - j ∧ jv = .int .i64 j ∧ W = Wq)
       case atStart => exact ⟨0, by omega, rfl, rfl, rfl⟩
       case round =>
        obtain ⟨j, hj, rfl, rfl, hW⟩ := hrel
        subst hW
        by_cases hj2 : j < i
        ·obtain ⟨g1, g2, e1, e2, _, co⟩ := HC.out wr HB.out j hj2
         subst e1 e2
         have hj' : (j : Int) < (i : Int) := by omega
         by_cases hz : hi = 0
         ·rw [HZ.out hz, idL_get _ _ hj2] at co
          have y0 : (hi == 0) = true := by simpa using hz
          have y1 : (hi == 1) = false := by simp [hz]
          have y2 : ((j : Int) != (j : Int)) = false := by simp
          clear hz
          by_cases hl1 : lo = 1
          ·have y3 : (lo == 1) = true := by simpa using hl1
           clear hl1
           go_wp2
           go_roundg (i - (j + 1))
           case measure => omega
           case rel => exact ⟨j + 1, by omega, rfl, by go_num, rfl⟩
          ·have y3 : (lo == 1) = false := by simpa using hl1
           clear hl1
           go_wp2
           go_roundg (i - (j + 1))
           case measure => omega
           case rel => exact ⟨j + 1, by omega, rfl, by go_num, rfl⟩
         ·have y0 : (hi == 0) = false := by simpa using hz
          by_cases hl1 : lo = 1
          ·have y3 : (lo == 1) = true := by simpa using hl1
           by_cases hh1 : hi = 1
           ·have y1 : (hi == 1) = true := by simpa using hh1
            rw [HO.out hl1 hh1, idL_rev _ _ hj2, show ((i - 1 - j : Nat) : Int) = (i : Int) - 1 - (j : Int) by omega] at co
            have y2 : ((i : Int) - 1 - (j : Int) != (i : Int) - 1 - (j : Int)) = false := by simp
            clear hz hl1 hh1
            go_wp2
            go_roundg (i - (j + 1))
            case measure => omega
            case rel => exact ⟨j + 1, by omega, rfl, by go_num, rfl⟩
           ·have y1 : (hi == 1) = false := by simpa using hh1
            clear hz hl1 hh1
            go_wp2
            go_roundg (i - (j + 1))
            case measure => omega
            case rel => exact ⟨j + 1, by omega, rfl, by go_num, rfl⟩
          ·have y3 : (lo == 1) = false := by simpa using hl1
           clear hz hl1
           go_wp2
           go_roundg (i - (j + 1))
           case measure => omega
           case rel => exact ⟨j + 1, by omega, rfl, by go_num, rfl⟩
        ·obtain rfl : j = i := by omega
         have hj' : ¬ (j : Int) < (j : Int) := by omega
         have HF : Hid (Below w.heap.size w wr ∧ wr.heap[bx]? = some (.cells #[.int .i64 k, .int .i64 a, .string s, oe] 29 (0, 0))) := ⟨H2.out.1.trans (HB.out.mono H2.out.1.size), heap_keep HB.out H2.out.2.1⟩
         go_wp2
         go_roundg (3 - (d + 1))
         case measure => omega
         case rel => exact ⟨d + 1, by omega, rfl, by go_num, HF.out.1, HF.out.2⟩
      ·have hd1' : ((d : Int) == 1) = false := by simp; omega
       clear l1 hd1
       go_wp2
       clear l0 h0 hd1' hn0'
       go_loopg [13] i (fun gk jv W => ∃ j : Nat, j ≤ i ∧ gk = i - j ∧ jv = .int .i64 j ∧ W = Wq)
       case atStart => exact ⟨0, by omega, rfl, rfl, rfl⟩
       case round =>
        obtain ⟨j, hj, rfl, rfl, hW⟩ := hrel
        subst hW
        by_cases hj2 : j < i
        ·obtain ⟨g1, g2, e1, e2, _, co⟩ := HC.out wr HB.out j hj2
         subst e1 e2
         have hj' : (j : Int) < (i : Int) := by omega
         by_cases hz : hi = 0
         ·rw [HZ.out hz, idL_get _ _ hj2] at co
          have y0 : (hi == 0) = true := by simpa using hz
          have y1 : (hi == 1) = false := by simp [hz]
          have y2 : ((j : Int) != (j : Int)) = false := by simp
          clear hz
          by_cases hl1 : lo = 1
          ·have y3 : (lo == 1) = true := by simpa using hl1
           clear hl1
           go_wp2
           go_roundg (i - (j + 1))
           case measure => omega
           case rel => exact ⟨j + 1, by omega, rfl, by go_num, rfl⟩
          ·have y3 : (lo == 1) = false := by simpa using hl1
           clear hl1
           go_wp2
           go_roundg (i - (j + 1))
           case measure => omega
           case rel => exact ⟨j + 1, by omega, rfl, by go_num, rfl⟩
         ·have y0 : (hi == 0) = false := by simpa using hz
          by_cases hl1 : lo = 1
          ·have y3 : (lo == 1) = true := by simpa using hl1
           by_cases hh1 : hi = 1
           ·have y1 : (hi == 1) = true := by simpa using hh1
            rw [HO.out hl1 hh1, idL_rev _ _ hj2, show ((i - 1 - j : Nat) : Int) = (i : Int) - 1 - (j : Int) by omega] at co
            have y2 : ((i : Int) - 1 - (j : Int) != (i : Int) - 1 - (j : Int)) = false := by simp
            clear hz hl1 hh1
            go_wp2
            go_roundg (i - (j + 1))
            case measure => omega
            case rel => exact ⟨j + 1, by omega, rfl, by go_num, rfl⟩
           ·have y1 : (hi == 1) = false := by simpa using hh1
            clear hz hl1 hh1
            go_wp2
            go_roundg (i - (j + 1))
            case measure => omega
            case rel => exact ⟨j + 1, by omega, rfl, by go_num, rfl⟩
          ·have y3 : (lo == 1) = false := by simpa using hl1
           clear hz hl1
           go_wp2
           go_roundg (i - (j + 1))
           case measure => omega
           case rel => exact ⟨j + 1, by omega, rfl, by go_num, rfl⟩
        ·obtain rfl : j = i := by omega
         have hj' : ¬ (j : Int) < (j : Int) := by omega
         have HF : Hid (Below w.heap.size w wr ∧ wr.heap[bx]? = some (.cells #[.int .i64 k, .int .i64 a, .string s, oe] 29 (0, 0))) := ⟨H2.out.1.trans (HB.out.mono H2.out.1.size), heap_keep HB.out H2.out.2.1⟩
         go_wp2
         go_roundg (3 - (d + 1))
         case measure => omega
         case rel => exact ⟨d + 1, by omega, rfl, by go_num, HF.out.1, HF.out.2⟩
     ·have hn0' : ¬ (0 : Int) < (i : Int) := by omega
      clear l1
      go_wp2
      clear l0 h0 hn0'
      go_loopg [13] i (fun gk jv W => ∃ j : Nat, j ≤ i ∧ gk = i - j ∧ jv = .int .i64 j ∧ W = Wq)
      case atStart => exact ⟨0, by omega, rfl, rfl, rfl⟩
      case round =>
       obtain ⟨j, hj, rfl, rfl, hW⟩ := hrel
       subst hW
       by_cases hj2 : j < i
       ·obtain ⟨g1, g2, e1, e2, _, co⟩ := HC.out wr HB.out j hj2
        subst e1 e2
        have hj' : (j : Int) < (i : Int) := by omega
        by_cases hz : hi = 0
        ·rw [HZ.out hz, idL_get _ _ hj2] at co
         have y0 : (hi == 0) = true := by simpa using hz
         have y1 : (hi == 1) = false := by simp [hz]
         have y2 : ((j : Int) != (j : Int)) = false := by simp
         clear hz
         by_cases hl1 : lo = 1
         ·have y3 : (lo == 1) = true := by simpa using hl1
          clear hl1
          go_wp2
          go_roundg (i - (j + 1))
          case measure => omega
          case rel => exact ⟨j + 1, by omega, rfl, by go_num, rfl⟩
         ·have y3 : (lo == 1) = false := by simpa using hl1
          clear hl1
          go_wp2
          go_roundg (i - (j + 1))
          case measure => omega
          case rel => exact ⟨j + 1, by omega, rfl, by go_num, rfl⟩
        ·have y0 : (hi == 0) = false := by simpa using hz
         by_cases hl1 : lo = 1
         ·have y3 : (lo == 1) = true := by simpa using hl1
          by_cases hh1 : hi = 1
          ·have y1 : (hi == 1) = true := by simpa using hh1
           rw [HO.out hl1 hh1, idL_rev _ _ hj2, show ((i - 1 - j : Nat) : Int) = (i : Int) - 1 - (j : Int) by omega] at co
           have y2 : ((i : Int) - 1 - (j : Int) != (i : Int) - 1 - (j : Int)) = false := by simp
           clear hz hl1 hh1
           go_wp2
           go_roundg (i - (j + 1))
           case measure => omega
           case rel => exact ⟨j + 1, by omega, rfl, by go_num, rfl⟩
          ·have y1 : (hi == 1) = false := by simpa using hh1
           clear hz hl1 hh1
           go_wp2
           go_roundg (i - (j + 1))
           case measure => omega
           case rel => exact ⟨j + 1, by omega, rfl, by go_num, rfl⟩
         ·have y3 : (lo == 1) = false := by simpa using hl1
          clear hz hl1
          go_wp2
          go_roundg (i - (j + 1))
          case measure => omega
          case rel => exact ⟨j + 1, by omega, rfl, by go_num, rfl⟩
       ·obtain rfl : j = i := by omega
        have hj' : ¬ (j : Int) < (j : Int) := by omega
        have HF : Hid (Below w.heap.size w wr ∧ wr.heap[bx]? = some (.cells #[.int .i64 k, .int .i64 a, .string s, oe] 29 (0, 0))) := ⟨H2.out.1.trans (HB.out.mono H2.out.1.size), heap_keep HB.out H2.out.2.1⟩
        go_wp2
        go_roundg (3 - (d + 1))
        case measure => omega
        case rel => exact ⟨d + 1, by omega, rfl, by go_num, HF.out.1, HF.out.2⟩
  ·have hd3 : ¬ (d : Int) < 3 := by omega
   have HB : Hid (Below w.heap.size w wr) := hb
   clear hb hx
   go_wp2
   go_ret
   exact ⟨rfl, HB.out⟩
end Go.Proofs.YtkbinfhclaafhaaGreatDoor
