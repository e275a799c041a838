import Derived.Test.YtkbinfhclaafhaaGreatDoorM20
import Derived.Deep.RegionWith
import Derived.Lib.ValidU
import Derived.Lib.RuneCount
import Derived.Lib.Strings
import Derived.Test.YtkbinfhclaafhaaGreatDoorM13
import Derived.Test.YtkbinfhclaafhaaGreatDoorM14
import Derived.Test.YtkbinfhclaafhaaGreatDoorM16
import Derived.Deep.RegionLaw
import Derived.Deep.DrawnRows
import Derived.Test.YtkbinfhclaafhaaGreatDoorM10
namespace Go.Proofs.YtkbinfhclaafhaaGreatDoor
open Go.RowKit
set_option maxHeartbeats 1000000 in
theorem classes_row (l : List Int) (b off cap n : Nat) (w : World) (hl : l.length = n) (hn : n ≤ 1000) (hc : IntsAt w b off l) :
  Calls Tryz.prog 46 #[.slice (some ⟨b, off, none⟩) n cap] w fun e w' => ∃ v, e = .returned v ∧ w'.ownsRow w.heap.size 3 1 v n ((l.map cls).map (Value.int .i64)) ∧ Below w.heap.size w w' := by
 obtain ⟨i0, hi, hz0, hz1, hz2⟩ := info_parts Tryz.infoInt
 have HC : Hid (IntsAt w b off l) := hc
 have HL : Hid (l.length = n) := hl
 clear hc hl
 go_enter Tryz.func46, Tryz.ntmps46
 go_wp2
 go_loopw [3, 4] (fun v i wr => ∃ k : Nat, k ≤ n ∧ i = .int .i64 k ∧ wr.ownsRow w.heap.size 3 1 v k (((l.take k).map cls).map (Value.int .i64)) ∧ Below w.heap.size w wr) (fun _ i _ => n - (intOf i).toNat)
 case atStart => exact ⟨0, Nat.zero_le _, rfl, World.ownsRow_nil _ _ _ _, Below.refl _ _⟩
 case round =>
  obtain ⟨k, hk, rfl, hown, hb⟩ := hrel
  have hbz := hb.size
  by_cases hlt : k < n
  ·have hcell := (HC.out.below hb) k (by rw [HL.out]; exact hlt)
   obtain ⟨x, hx⟩ : ∃ x, x = l.getD k 0 := ⟨_, rfl⟩
   rw [← hx] at hcell
   have HX : Hid ((l.take (k + 1)).map cls = (l.take k).map cls ++ [cls x]) := by
    have hk' : k < l.length := by rw [HL.out]; exact hlt
    show (l.take (k + 1)).map cls = (l.take k).map cls ++ [cls x]
    rw [hx, List.take_succ_eq_append_getElem hk', List.map_append]
    simp [List.getD_eq_getElem?_getD, List.getElem?_eq_getElem hk']
   clear hx
   have hlt' : (k : Int) < (n : Int) := by omega
   go_wp2_with fail
   refine (class_any x _).mono ?_
   rintro e w1 ⟨rfl, hb1⟩
   have hown1 : w1.ownsRow w.heap.size 3 1 _ k (((l.take k).map cls).map (Value.int .i64)) := hown.kept ⟨hb1.os, hb1.tape, hb1.output, hb1.size, fun j hj _ => hb1.block j hj⟩ (row := none) (by rcases hown.2 with ⟨rfl, _⟩ | ⟨g, c, cur, rfl, _⟩ <;> simp [Value.ownBlock])
   have hb2 : Below w.heap.size w w1 := hb.trans (hb1.mono hbz)
   have hbz2 := hb2.size
   clear hown hb hb1 hcell
   go_wp2_with (at_builtin; refine wpList_push _ rfl _ _ 31 rfl w.heap.size 3 i0 (.int .i64 0) 8 Tryz.underlying31 hi hz0 hz1 hz2 rfl (by decide) _ _ _ rfl hown1 _ _ rfl rfl (by omega) (by omega) ?_)
   intro v' w2 hown' hb'
   clear hown1
   go_wp2
   go_roundw
   case rel => exact ⟨k + 1, by omega, by go_num, by rw [HX.out]; simpa using hown', hb2.trans hb'⟩
   case measure => simp [intOf]; omega
  ·go_wp2
   go_ret
   refine ⟨_, rfl, ?_, hb⟩
   have e : k = n := by omega
   subst e
   rwa [List.take_of_length_le (by rw [HL.out]; omega)] at hown
def askErr (s : ByteArray) : Int := if 600 < s.size then 1 else match runesOf s with
 | none => 2
 | some l => if amongB 10 l = true then 2 else if 300 < l.length then 1 else 0
def askRunes (s : ByteArray) : List Int := if askErr s = 0 then (runesOf s).getD [] else []
def faultV (e : Int) : Value := .agg #[.int .i64 e, .int .i64 (if e = 0 then 0 else -1), .int .i64 (if e = 0 then 0 else -1)]
theorem ask_long {s : ByteArray} (h : 600 < s.size) : askErr s = 1 := if_pos h
theorem ask_none {s : ByteArray} (h : ¬ 600 < s.size) (hr : runesOf s = none) : askErr s = 2 := by unfold askErr; rw [if_neg h, hr]
theorem ask_feed {s : ByteArray} {l : List Int} (h : ¬ 600 < s.size) (hr : runesOf s = some l) (ha : amongB 10 l = true) : askErr s = 2 := by unfold askErr; rw [if_neg h, hr]; exact if_pos ha
theorem ask_many {s : ByteArray} {l : List Int} (h : ¬ 600 < s.size) (hr : runesOf s = some l) (ha : ¬ amongB 10 l = true) (hl : 300 < l.length) : askErr s = 1 := by unfold askErr; rw [if_neg h, hr]; exact (if_neg ha).trans (if_pos hl)
theorem ask_ok {s : ByteArray} {l : List Int} (h : ¬ 600 < s.size) (hr : runesOf s = some l) (ha : ¬ amongB 10 l = true) (hl : ¬ 300 < l.length) : askErr s = 0 := by unfold askErr; rw [if_neg h, hr]; exact (if_neg ha).trans (if_neg hl)
theorem askRunes_err {s : ByteArray} (h : askErr s ≠ 0) : askRunes s = [] := if_neg h
theorem askRunes_ok {s : ByteArray} {l : List Int} (h : askErr s = 0) (hr : runesOf s = some l) : askRunes s = l := by unfold askRunes; rw [if_pos h, hr]; rfl
set_option maxHeartbeats 1000000 in
theorem asked_long (s : ByteArray) (w : World) (hs : (600 : Int) < (s.size : Int)) :
  Calls Tryz.prog 45 #[.string s] w fun e w' => e = .returned (.tuple #[.slice none 0 0, .agg #[.int .i64 1, .int .i64 (-1), .int .i64 (-1)]]) ∧ Below w.heap.size w w' := by
 go_enter Tryz.func45, Tryz.ntmps45
 go_wp2
 exact bodyPost_ret (v := .tuple #[.slice none 0 0, .agg #[.int .i64 1, .int .i64 (-1), .int .i64 (-1)]]) (by simp [results, Tryz.results45, go_sem]) rfl ⟨rfl, (Below.refl _ _).alloc (Nat.le_refl _) _⟩
set_option maxHeartbeats 1000000 in
theorem asked_short (s : ByteArray) (w : World) (hs : (s.size : Int) ≤ 600) :
  Calls Tryz.prog 45 #[.string s] w fun e w' => Below w.heap.size w w' ∧ ∃ v, e = .returned (.tuple #[v, faultV (askErr s)]) ∧ SlI w' v (askRunes s) ∧ (askErr s ≠ 0 → v = .slice none 0 0) := by
 have hs6 : ¬ 600 < s.size := by omega
 go_enter Tryz.func45, Tryz.ntmps45
 go_wp2_with fail
 refine (runes_any s _ (by omega)).mono ?_
 rintro e w1 ⟨hb, (⟨hr, p, rfl⟩ | ⟨v, l, hr, hll, rfl, hown⟩)⟩
 ·obtain ⟨hc, hf⟩ := bcell hb
  have HE : Hid (askErr s = 2) := ask_none hs6 hr
  have HR : Hid (runesOf s = none) := hr
  clear hr
  have hp : (0 : Int) ≤ (p : Int) := by omega
  go_wp2_with fail
  refine (among_nil 10 _).mono ?_
  rintro e w2 ⟨rfl, rfl⟩
  go_wp2
  have hB : Below w.heap.size w (((w2.setCell ⟨w.heap.size, 0, none⟩ (.int .i64 2)).setCell ⟨w.heap.size, 1, none⟩ (.int .i64 (-1))).setCell ⟨w.heap.size, 2, none⟩ (.int .i64 (-1))) :=
   (((((Below.refl _ _).alloc (Nat.le_refl _) _).trans (hb.mono (by simp))).setCell (Nat.le_refl _) _).setCell (Nat.le_refl _) _).setCell (Nat.le_refl _) _
  refine bodyPost_ret (v := .tuple #[.slice none 0 0, .agg #[.int .i64 2, .int .i64 (-1), .int .i64 (-1)]]) (by simp [results, Tryz.results45, go_sem, hc]) rfl ⟨hB, _, by rw [HE.out]; rfl, ?_, fun _ => rfl⟩
  exact .inl ⟨rfl, askRunes_err (by rw [HE.out]; decide)⟩
 ·obtain ⟨hc, hf⟩ := bcell hb
  have HR : Hid (runesOf s = some l) := hr
  have HO : Hid (w1.ownsRow _ 3 1 v l.length (l.map (Value.int .i64))) := hown
  have hsl := SlI.of_owns hown
  clear hr hown
  have hB3 : ∀ x y z : Value, Below w.heap.size w (((w1.setCell ⟨w.heap.size, 0, none⟩ x).setCell ⟨w.heap.size, 1, none⟩ y).setCell ⟨w.heap.size, 2, none⟩ z) := fun _ _ _ =>
   (((((Below.refl _ _).alloc (Nat.le_refl _) _).trans (hb.mono (by simp))).setCell (Nat.le_refl _) _).setCell (Nat.le_refl _) _).setCell (Nat.le_refl _) _
  have HB : Hid (∀ x y z : Value, Below w.heap.size w (((w1.setCell ⟨w.heap.size, 0, none⟩ x).setCell ⟨w.heap.size, 1, none⟩ y).setCell ⟨w.heap.size, 2, none⟩ z)) := hB3
  have HS : Hid (∀ x y z : Value, SlI (((w1.setCell ⟨w.heap.size, 0, none⟩ x).setCell ⟨w.heap.size, 1, none⟩ y).setCell ⟨w.heap.size, 2, none⟩ z) v l) := fun _ _ _ =>
   SlI.of_owns (ownsRow_setCell_below (ownsRow_setCell_below (ownsRow_setCell_below HO.out (by simp) _) (by simp) _) (by simp) _)
  clear hB3
  obtain ⟨len, cap, ao, hv⟩ : ∃ len cap ao, v = .slice ao len cap ∧ len = l.length := by
   rcases HO.out.2 with ⟨rfl, h0⟩ | ⟨g, cap, cur, rfl, _⟩
   ·exact ⟨_, _, _, rfl, by omega⟩
   ·exact ⟨_, _, _, rfl, rfl⟩
  obtain ⟨rfl, rfl⟩ := hv
  go_wp2_with fail
  refine (among_any 10 l _ _ (by omega) hsl).mono ?_
  rintro e w2 ⟨rfl, rfl⟩
  clear hsl HO hb
  by_cases ha : amongB 10 l = true
  ·have HE : Hid (askErr s = 2) := ask_feed hs6 HR.out ha
   go_wp2
   refine bodyPost_ret (v := .tuple #[.slice none 0 0, .agg #[.int .i64 2, .int .i64 (-1), .int .i64 (-1)]]) (by simp [results, Tryz.results45, go_sem, hc]) rfl ⟨HB.out _ _ _, _, by rw [HE.out]; rfl, ?_, fun _ => rfl⟩
   exact .inl ⟨rfl, askRunes_err (by rw [HE.out]; decide)⟩
  ·have HA : Hid (¬ amongB 10 l = true) := ha
   have ha : amongB 10 l = false := by simpa using ha
   by_cases h3 : 300 < l.length
   ·have HE : Hid (askErr s = 1) := ask_many hs6 HR.out HA.out h3
    go_wp2
    refine bodyPost_ret (v := .tuple #[.slice none 0 0, .agg #[.int .i64 1, .int .i64 (-1), .int .i64 (-1)]]) (by simp [results, Tryz.results45, go_sem, hc]) rfl ⟨HB.out _ _ _, _, by rw [HE.out]; rfl, ?_, fun _ => rfl⟩
    exact .inl ⟨rfl, askRunes_err (by rw [HE.out]; decide)⟩
   ·have HE : Hid (askErr s = 0) := ask_ok hs6 HR.out HA.out h3
    go_wp2
    refine bodyPost_ret (v := .tuple #[.slice ao l.length cap, .agg #[.int .i64 0, .int .i64 0, .int .i64 0]]) (by simp [results, Tryz.results45, go_sem, hc]) rfl ⟨HB.out _ _ _, _, by rw [HE.out]; rfl, ?_, fun h => absurd HE.out h⟩
    rw [askRunes_ok HE.out HR.out]
    exact HS.out _ _ _
theorem _root_.Go.World.ownsRow.low {w : World} {base base' : Nat} {e : TypeId} {size : Nat} {v : Value} {n : Nat} {xs : List Value} (h : w.ownsRow base e size v n xs) (hb : base' ≤ base) : w.ownsRow base' e size v n xs := by
 refine ⟨h.1, ?_⟩
 rcases h.2 with h | ⟨g, cap, cur, h1, h2, h3⟩
 ·exact .inl h
 ·exact .inr ⟨g, cap, cur, h1, Nat.le_trans hb h2, h3⟩
theorem asked_any (s : ByteArray) (w : World) :
  Calls Tryz.prog 45 #[.string s] w fun e w' => Below w.heap.size w w' ∧ ∃ v, e = .returned (.tuple #[v, faultV (askErr s)]) ∧ SlI w' v (askRunes s) ∧ (askErr s ≠ 0 → v = .slice none 0 0) := by
 by_cases h : (600 : Int) < (s.size : Int)
 ·refine (asked_long s w h).mono ?_
  rintro e w' ⟨rfl, hb⟩
  have he : askErr s = 1 := ask_long (by omega)
  exact ⟨hb, _, by rw [he]; rfl, .inl ⟨rfl, askRunes_err (by rw [he]; decide)⟩, fun _ => rfl⟩
 ·exact asked_short s w (by omega)
theorem askRunes_le (s : ByteArray) : (askRunes s).length ≤ 300 := by
 unfold askRunes
 split
 ·rename_i h
  unfold askErr at h
  split at h
  ·simp at h
  ·cases hr : runesOf s with
   | none => simp
   | some l =>
    rw [hr] at h
    simp only at h
    split at h
    ·simp at h
    ·split at h
     ·simp at h
     ·simp; omega
 ·simp
end Go.Proofs.YtkbinfhclaafhaaGreatDoor
namespace Go.Proofs.YtkbinfhclaafhaaGreatDoor
open Go.RowKit
theorem get_drop (s : ByteArray) (p k : Nat) : (⟨(s.data.toList.drop p).toArray⟩ : ByteArray).get! k = s.get! (p + k) := by
 obtain ⟨d⟩ := s
 show (d.toList.drop p).toArray[k]! = d[p + k]!
 by_cases h : p + k < d.size
 ·have h1 : k < (d.toList.drop p).toArray.size := by simp; omega
  rw [getElem!_pos (d.toList.drop p).toArray k h1, getElem!_pos d (p + k) h]
  simp
 ·have h1 : ¬ k < (d.toList.drop p).toArray.size := by simp; omega
  rw [getElem!_neg (d.toList.drop p).toArray k h1, getElem!_neg d (p + k) h]
theorem decodeL_drop (s : ByteArray) (p : Nat) (_h : p < s.size) : Lib.decodeL (s.data.toList.drop p) = Utf8.decode s p := by
 unfold Lib.decodeL
 rw [Lib.decode_at, Lib.decode_at]
 have e : (⟨(s.data.toList.drop p).toArray⟩ : ByteArray).size - 0 = s.size - p := by
  simp only [ByteArray.size]
  simp
 rw [e]
 simp only [get_drop, Nat.add_zero, Nat.zero_add]
theorem szAt_eq (s : ByteArray) (p : Nat) : szAt s p = if (Utf8.decode s p).1 = 65533 ∧ (Utf8.decode s p).2 = 1 then 0 else (Utf8.decode s p).2 := by
 unfold szAt szN
 rw [Lib.decode_at]
theorem szAt_width (s : ByteArray) (p : Nat) (h : szAt s p ≠ 0) : (Utf8.decode s p).2 = szAt s p := by
 rw [szAt_eq] at h ⊢
 split at h
 ·exact absurd rfl h
 ·rename_i h'; rw [if_neg h']
theorem validGo_eq (s : ByteArray) : ∀ f p, Lib.validGoD f (s.data.toList.drop p) = (runesFrom s f p).isSome
 | 0, _ => rfl
 | f + 1, p => by
  unfold Lib.validGoD runesFrom
  by_cases hp : p < s.size
  ·have hne : ¬ s.data.toList.drop p = [] := by
    rw [List.drop_eq_nil_iff]
    simp only [Array.length_toList]
    exact Nat.not_le.2 hp
   rw [if_neg hne, if_pos hp, decodeL_drop s p hp]
   by_cases hz : (Utf8.decode s p).1 = 65533 ∧ (Utf8.decode s p).2 = 1
   ·have h0 : szAt s p = 0 := by rw [szAt_eq, if_pos hz]
    rw [if_pos hz, if_pos h0]
    rfl
   ·have h0 : szAt s p ≠ 0 := by
     rw [szAt_eq, if_neg hz]
     have := Lib.width_pos s p
     omega
    rw [if_neg hz, if_neg h0, szAt_width s p h0, List.drop_drop, validGo_eq s f (p + szAt s p)]
    simp
  ·have he : s.data.toList.drop p = [] := by
    rw [List.drop_eq_nil_iff]
    simp only [Array.length_toList]
    exact Nat.not_lt.1 hp
   rw [if_pos he, if_neg hp]
   rfl
theorem valid_eq (s : ByteArray) : Lib.validD s.data.toList = (runesOf s).isSome := by
 have := validGo_eq s s.size 0
 rw [List.drop_zero] at this
 unfold Lib.validD runesOf
 rw [← this]
 congr 1
theorem count_eq (s : ByteArray) : ∀ f p l, runesFrom s f p = some l → Lib.runeCountFrom s f p = l.length
 | 0, _, l, h => by simp [runesFrom] at h; subst h; rfl
 | f + 1, p, l, h => by
  unfold runesFrom at h
  unfold Lib.runeCountFrom
  by_cases hp : p < s.size
  ·rw [if_pos hp] at h ⊢
   by_cases h0 : szAt s p = 0
   ·rw [if_pos h0] at h; cases h
   ·rw [if_neg h0] at h
    cases hr : runesFrom s f (p + szAt s p) with
    | none => rw [hr] at h; cases h
    | some l' =>
     rw [hr] at h
     simp at h
     subst h
     rw [szAt_width s p h0, count_eq s f _ l' hr]
     simp; omega
  ·rw [if_neg hp] at h ⊢
   simp at h; subst h; rfl
theorem runeCount_eq {s : ByteArray} {l : List Int} (h : runesOf s = some l) : Lib.runeCount s = l.length := count_eq s s.size 0 l h
theorem feed_from (s : ByteArray) : ∀ f p l, s.size ≤ p + f → runesFrom s f p = some l → (amongB 10 l = true ↔ ∃ q, p ≤ q ∧ q < s.size ∧ (s.get! q).toNat = 10)
 | 0, p, l, hf, h => by
  simp [runesFrom] at h; subst h
  simp only [amongB, List.contains_nil, Bool.false_eq_true, false_iff]
  rintro ⟨q, h1, h2, _⟩; omega
 | f + 1, p, l, hf, h => by
  unfold runesFrom at h
  by_cases hp : p < s.size
  ·rw [if_pos hp] at h
   by_cases h0 : szAt s p = 0
   ·rw [if_pos h0] at h; cases h
   ·rw [if_neg h0] at h
    cases hr : runesFrom s f (p + szAt s p) with
    | none => rw [hr] at h; cases h
    | some l' =>
     rw [hr] at h
     simp at h
     subst h
     have ih := feed_from s f (p + szAt s p) l' (by omega) hr
     have key : runeAt s p = 10 ↔ ∃ q, p ≤ q ∧ q < p + szAt s p ∧ (s.get! q).toNat = 10 := by
      have hi : (s.get! p).toNat = (s[p]'hp).toNat := by rw [get_eq s p hp]
      rcases sz_cases s p hp h0 with ⟨e1, h1, hr'⟩ | ⟨e1, hn, h1, h2, h3, h4, _⟩ | ⟨e1, hn, h1, h2, h3, h4, h5, h6, _⟩ | ⟨e1, hn, h1, h2, h3, h4, h5, h6, h7, h8, _⟩
      ·constructor
       ·intro h; exact ⟨p, by omega, by omega, by omega⟩
       ·rintro ⟨q, h1, h2, h3⟩
        have : q = p := by omega
        subst this; omega
      all_goals
       have hd := (decode_high s p hp (by omega)).1
       constructor
       ·intro h; unfold runeAt at h; omega
       ·rintro ⟨q, g1, g2, g3⟩
        have : q = p ∨ q = p + 1 ∨ q = p + 2 ∨ q = p + 3 := by omega
        rcases this with rfl | rfl | rfl | rfl <;> omega
     have hc : amongB 10 (runeAt s p :: l') = true ↔ runeAt s p = 10 ∨ amongB 10 l' = true := by
      simp only [amongB, List.contains_cons, Bool.or_eq_true, beq_iff_eq]
      constructor
      ·rintro (h | h)
       ·exact .inl h.symm
       ·exact .inr h
      ·rintro (h | h)
       ·exact .inl h.symm
       ·exact .inr h
     have hle : p + szAt s p ≤ s.size := by
      rcases sz_cases s p hp h0 with ⟨e1, _⟩ | ⟨e1, hn, _⟩ | ⟨e1, hn, _⟩ | ⟨e1, hn, _⟩ <;> omega
     rw [hc, key, ih]
     constructor
     ·rintro (⟨q, h1, h2, h3⟩ | ⟨q, h1, h2, h3⟩)
      ·exact ⟨q, h1, by omega, h3⟩
      ·exact ⟨q, by omega, h2, h3⟩
     ·rintro ⟨q, h1, h2, h3⟩
      by_cases hq : q < p + szAt s p
      ·exact .inl ⟨q, h1, hq, h3⟩
      ·exact .inr ⟨q, by omega, h2, h3⟩
  ·rw [if_neg hp] at h
   simp at h; subst h
   simp only [amongB, List.contains_nil, Bool.false_eq_true, false_iff]
   rintro ⟨q, h1, h2, _⟩; omega
theorem feed_eq {s : ByteArray} {l : List Int} (h : runesOf s = some l) : s.data.toList.contains 10 = amongB 10 l := by
 rw [Bool.eq_iff_iff, feed_from s s.size 0 l (by omega) h]
 rw [List.contains_iff_mem, List.mem_iff_getElem]
 constructor
 ·rintro ⟨q, hq, e⟩
  have hq' : q < s.size := by simpa using hq
  refine ⟨q, by omega, hq', ?_⟩
  rw [get_eq s q hq']
  have : s[q]'hq' = 10 := (show s.data[q]'hq' = 10 from by simpa using e)
  rw [this]; rfl
 ·rintro ⟨q, _, hq, e⟩
  refine ⟨q, by simpa using hq, ?_⟩
  rw [get_eq s q hq] at e
  have : s.data[q]'hq = 10 := UInt8.toNat_inj.1 (by show (s[q]'hq).toNat = _; rw [e]; rfl)
  simpa using this
end Go.Proofs.YtkbinfhclaafhaaGreatDoor
namespace Go.Proofs.YtkbinfhclaafhaaGreatDoor
open Go.RowKit
attribute [local go_sem ↓] Go.wp_at_zero Go.wp_at_succ
theorem news0 (w : World) (y : Value) (e : TypeId) : ∀ j u, [y][j]? = some u → (w.alloc (.cells #[y] e)).cell? ((⟨w.heap.size, 0, none⟩ : Addr).add j) = some u := by
 intro j u hj
 match j, hj with
 | 0, hj => simp at hj; subst hj; simp [Addr.add]
theorem alloc_grown0 (w : World) (a : Obj) (r : Option Nat) : w.grownBy (w.alloc a) r := ⟨rfl, rfl, rfl, by simp, fun k hk _ => Below.heap_alloc w a k hk⟩
set_option maxRecDepth 100000 in
set_option maxHeartbeats 32000000 in
theorem newLine_some (s : ByteArray) (l : List Int) (d : Int) (w : World) (hs : s.size ≤ 600) (hr : runesOf s = some l) (hl : l ≠ []) (hcl : ∀ (r : Int) (W : World), Below w.heap.size w W → Calls Tryz.prog 66 #[.int .i32 r] W fun e w' => e = .returned (.int .i64 (cls r)) ∧ Below W.heap.size W w') :
  Calls Tryz.prog 84 #[.string s, .int .i64 d] w fun e w' => ∃ L : LP, e = .returned (.pointer (some ⟨L.lb, 0, none⟩)) ∧ LX w' L L.cs (List.replicate L.n 0) ∧ L.cs = l.map cls ∧ L.rs = l ∧ L.n = l.length ∧ L.p = paraL (l.map cls) d ∧ L.B = w.heap.size ∧ Below w.heap.size w w' := by
 obtain ⟨i32, hi32, hz0, hz1, hz2⟩ := info_parts Tryz.infoI32
 obtain ⟨iC, hiC, hc0, hc1, hc2⟩ := info_parts Tryz.infoCls
 have HR : Hid (runesOf s = some l) := hr
 have HCl : Hid (∀ (r : Int) (W : World), Below w.heap.size w W → Calls Tryz.prog 66 #[.int .i32 r] W fun e w' => e = .returned (.int .i64 (cls r)) ∧ Below W.heap.size W w') := hcl
 obtain ⟨W0, hW0⟩ : ∃ W0, W0 = w.alloc (.cells #[.slice none 0 0, .slice none 0 0, .slice none 0 0, .slice none 0 0, .slice none 0 0, .int .i64 0] 141) := ⟨_, rfl⟩
 have hb0 : Below w.heap.size w W0 := by rw [hW0]; exact (Below.refl _ _).alloc (Nat.le_refl _) _
 have h0c : W0.heap[w.heap.size]? = some (.cells #[.slice none 0 0, .slice none 0 0, .slice none 0 0, .slice none 0 0, .slice none 0 0, .int .i64 0] 141 (0, 0)) := by rw [hW0]; exact Array.getElem?_push_size
 have h0z : W0.heap.size = w.heap.size + 1 := by rw [hW0]; simp
 clear hr hcl
 go_enter Tryz.func84, Tryz.ntmps84
 go_wp2
 rw [← hW0]
 obtain ⟨W1, hW1⟩ : ∃ W1, W1 = (W0.iter s 0) := ⟨_, rfl⟩
 have HN1 : Hid (NL W1 w.heap.size w.heap.size (w.heap.size + 1) s 0 (.slice none 0 0) (.slice none 0 0) [] []) := by
  rw [hW1]
  have hbi : Below W0.heap.size W0 (W0.iter s 0) := (Below.refl _ _).alloc (Nat.le_refl _) _
  exact ⟨heap_keep hbi h0c, World.ownsRow_nil _ _ _ _, World.ownsRow_nil _ _ _ _, by rw [← h0z]; exact World.iter_heap _ _ _, Nat.le_refl _⟩
 have HB1 : Hid (Below w.heap.size w W1) := by rw [hW1]; exact hb0.alloc hb0.size _
 rw [← hW1]
 clear hW1 hW0 hb0 h0c h0z
 obtain ⟨lb, hlb⟩ : ∃ lb, lb = w.heap.size := ⟨_, rfl⟩
 obtain ⟨it, hit⟩ : ∃ it, it = w.heap.size + 1 := ⟨_, rfl⟩
 have HLb : Hid (w.heap.size ≤ lb ∧ w.heap.size ≤ it) := ⟨by omega, by omega⟩
 have HN1' : Hid (NL W1 w.heap.size lb it s 0 (.slice none 0 0) (.slice none 0 0) [] []) := by rw [hlb, hit]; exact HN1.out
 rw [← hit, ← hlb]
 clear HN1 hlb hit
 go_loopg [7] s.size (fun gk _ W => ∃ (p : Nat) (q : List Int) (vr vt : Value), p ≤ s.size ∧ gk = s.size - p ∧ RunesTo s p q ∧ NL W w.heap.size lb it s p vr vt q q ∧ Below w.heap.size w W)
 case atStart => exact ⟨0, [], _, _, by omega, rfl, RunesTo.start s, HN1'.out, HB1.out⟩
 case round =>
  clear HN1' HB1
  obtain ⟨p, q, vr, vt, hp, rfl, hR, hN, hB⟩ := hrel
  have hql : q.length ≤ p := by obtain ⟨f, _, h, _⟩ := hR; exact h
  by_cases hlt : p < s.size
  ·have hz : szAt s p ≠ 0 := by
    intro h0
    have := hR.bad hlt h0
    rw [HR.out] at this
    cases this
   have HS : Hid (RunesTo s (p + szAt s p) (q ++ [runeAt s p])) := hR.step hlt hz
   have hle : p + szAt s p ≤ s.size := by
    rcases sz_cases s p hlt hz with ⟨e1, _⟩ | ⟨e1, hn, _⟩ | ⟨e1, hn, _⟩ | ⟨e1, hn, _⟩ <;> omega
   have hzp : 0 < szAt s p := by omega
   have hw := szAt_width s p hz
   have hnx : ∀ ty, (Instr.next (.pointer (some ⟨it, 0, none⟩)) true ty).run Tryz.prog wr = .ok (.tuple #[.bool true, .int .i64 p, .int .i32 (runeAt s p)]) (wr.iterAt it s (p + szAt s p)) := fun ty => by
    rw [Lib.run_next_any_at wr it s p ty hN.iter hlt, hw]; rfl
   have HNi : Hid (NL (wr.iterAt it s (p + szAt s p)) w.heap.size lb it s (p + szAt s p) vr vt q q) := hN.next _
   have HBi : Hid (Below w.heap.size w (wr.iterAt it s (p + szAt s p))) := Lib.below_iterAt hB HLb.out.2 _ _
   clear hR hz hw hN hB
   generalize szAt s p = k at *
   generalize runeAt s p = r at *
   generalize wr.iterAt it s (p + k) = wi at *
   obtain ⟨ra, rc, rfl⟩ := own_form HNi.out.rr
   obtain ⟨ta, tc, rfl⟩ := own_form HNi.out.rt
   have s0 : wi.cell? ⟨lb, 0, none⟩ = some (.slice ra q.length rc) := heap_cell HNi.out.cell 0
   have hrr := HNi.out.rr
   have hbz := HBi.out.size
   go_wp2_with (at_builtin; refine wpList_push2 _ rfl _ _ 138 rfl w.heap.size 21 i32 (.int .i32 0) 4 Tryz.underlying138 hi32 hz0 hz1 hz2 rfl (by decide) _ _ _ rfl hrr _ _ rfl rfl (by omega) hbz ?_)
   intro v5 w5 hown5 hg5
   obtain ⟨a5, c5', rfl⟩ := own_form hown5
   obtain ⟨hN5, c5, f5⟩ := HNi.out.pushR hown5 hg5
   have HB5 : Hid (Below w.heap.size w w5) := HBi.out.grown hg5 hbz (fun x hx => (hrr.lt x hx).1)
   have HB6 : Hid (Below w.heap.size w (w5.setCell ⟨lb, 0, none⟩ (.slice a5 (q.length + 1) c5'))) := HB5.out.setCell (p := ⟨lb, 0, none⟩) HLb.out.1 _
   have HN6 : Hid (NL (w5.setCell ⟨lb, 0, none⟩ (.slice a5 (q.length + 1) c5')) w.heap.size lb it s (p + k) (.slice a5 (q.length + 1) c5') (.slice ta q.length tc) (q ++ [r]) q) := hN5
   clear hown5 hg5 hN5 HB5 hrr s0 hnx
   go_wp2
   clear c5 f5
   generalize w5.setCell ⟨lb, 0, none⟩ (.slice a5 (q.length + 1) c5') = W6 at *
   have s1 : W6.cell? ⟨lb, 1, none⟩ = some (.slice ta q.length tc) := heap_cell HN6.out.cell 1
   have hbz6 := HB6.out.size
   have hent := callFunc_enter Tryz.func66 (by kernel_rfl) (by kernel_rfl)
   have HEn : Hid (∀ args w, (callFunc 66 args).run Tryz.prog w = .ok (.enter 66 args) w) := hent
   clear hent
   have HK7 : Hid (Calls Tryz.prog 66 #[.int .i32 r] W6.drew fun e w' => ∃ u, e = .returned u ∧ (u = .int .i64 (cls r) ∧ Below W6.drew.heap.size W6.drew w')) := (HCl.out r W6.drew HB6.out.drew).mono (fun e w' h => ⟨_, h.1, rfl, h.2⟩)
   have HLn : Hid (q.length ≤ 1000000) := by show _ ≤ _; omega
   go_region_law (first
    | (refine step_call1 (by rfl) 66 _ 21 (by rfl) HEn.out (.int .i32 r) (by rfl) (fun u w' => u = .int .i64 (cls r) ∧ Below W6.drew.heap.size W6.drew w') HK7.out ?_; rintro u w7 ⟨rfl, hb7⟩; have HN7 : Hid (NL w7 w.heap.size lb it s (p + k) (.slice a5 (q.length + 1) c5') (.slice ta q.length tc) (q ++ [r]) q) := HN6.out.below ((Below.refl _ _).drew.trans hb7); have HB7 : Hid (Below w.heap.size w w7) := HB6.out.drew.trans (hb7.mono hbz6); have t1 : w7.cell? ⟨lb, 1, none⟩ = some (.slice ta q.length tc) := heap_cell HN7.out.cell 1; have t1' : (w7.alloc (.cells #[.int .i64 (cls r)] 108)).cell? ⟨lb, 1, none⟩ = some (.slice ta q.length tc) := (World.cell?_alloc_lt _ _ ⟨lb, 1, none⟩ (heap_lt HN7.out.cell)).trans t1; have hrt := HN7.out.rt; have hbz7 := HB7.out.size; clear hb7 HK7 HEn)
    | (refine step_append_own (by rfl) _ _ 139 (by rfl) w.heap.size 108 iC (.int .i64 0) 1 8 Tryz.underlying139 hiC hc0 hc1 hc2 rfl (by decide) (by decide) (.slice ta q.length tc) q.length (iv (q.map cls)) (by rfl) (World.ownsRow.alloc hrt (.cells #[.int .i64 (cls r)] 108)) w7.heap.size [.int .i64 (cls r)] (by rfl) (by rfl) (news0 w7 _ _) (by intro u hu; simp at hu; subst hu; rfl) HLn.out (by simp; omega) ?_; intro v8 w8 hown8 hg8 _; obtain ⟨a8, c8', rfl⟩ := own_form hown8; obtain ⟨hN8, c8, f8⟩ := HN7.out.pushT hown8 ((alloc_grown0 w7 _ _).trans hg8); have HB8 : Hid (Below w.heap.size w w8) := (HB7.out.alloc hbz7 _).grown hg8 (by simp; omega) (fun x hx => (hrt.lt x hx).1); clear hown8 hg8))
   all_goals
    have HN9 : Hid (NL (w8.setCell ⟨lb, 1, none⟩ (.slice a8 (q.length + 1) c8')) w.heap.size lb it s (p + k) (.slice a5 (q.length + 1) c5') (.slice a8 (q.length + 1) c8') (q ++ [r]) (q ++ [r])) := hN8
    have HB9 : Hid (Below w.heap.size w (w8.setCell ⟨lb, 1, none⟩ (.slice a8 (q.length + 1) c8'))) := HB8.out.setCell (p := ⟨lb, 1, none⟩) HLb.out.1 _
    clear hN8 c8 f8 HB8
    go_wp2
    go_roundg (s.size - (p + k))
    case measure => omega
    case rel => exact ⟨p + k, q ++ [r], _, _, hle, rfl, HS.out, HN9.out, HB9.out⟩
  ·have hql2 : q = l := by
    have := hR.stop hlt
    rw [HR.out] at this
    exact (Option.some.inj this).symm
   subst hql2
   have hn0 : 0 < q.length := List.length_pos_iff.2 hl
   have hn6 : q.length ≤ 600 := by omega
   have hnx : ∀ ty, (Instr.next (.pointer (some ⟨it, 0, none⟩)) true ty).run Tryz.prog wr = .ok (.tuple #[.bool false]) wr := fun ty => Lib.run_next_end_at wr it s p ty hN.iter hlt
   obtain ⟨gr, cr, rfl, _, hgr, hgrB⟩ := own_some hN.rr hn0
   obtain ⟨gt, ct, rfl, _, hgt, hgtB⟩ := own_some hN.rt hn0
   have hrt1 := own_ne_cells hN.rt hN.cell (by decide)
   have hrr1 := own_ne_cells hN.rr hN.cell (by decide)
   obtain ⟨n, hn⟩ : ∃ n, n = q.length := ⟨_, rfl⟩
   have hmkC := run_make_row' (P := Tryz.prog) 139 108 (.int .i64 0) 8 Tryz.underlying139 Tryz.infoCls rfl .i64 .i64 n (by omega) (by omega)
   have hmkI := run_make_row' (P := Tryz.prog) 31 3 (.int .i64 0) 8 Tryz.underlying31 Tryz.infoI8 rfl .i64 .i64 n (by omega) (by omega)
   rw [← hn] at hN hn0 hn6
   have hLB : LB wr lb (.slice (some ⟨gr, 0, none⟩) n cr) (.slice (some ⟨gt, 0, none⟩) n ct) (.slice none 0 0) (.slice none 0 0) (.slice none 0 0) (.int .i64 0) := hN.cell
   have hrr : wr.ownsRow w.heap.size 21 1 (.slice (some ⟨gr, 0, none⟩) n cr) n (rv32 q) := by have := hN.rr; rw [← hn] at this; exact this
   have hrt : wr.ownsRow w.heap.size 108 1 (.slice (some ⟨gt, 0, none⟩) n ct) n (iv (q.map cls)) := by have := hN.rt; rw [← hn] at this; exact this
   have hlbw : lb < wr.heap.size := heap_lt hN.cell
   have ngl : gt ≠ lb := fun e => hrt1 (by rw [e]; rfl)
   have nrl : gr ≠ lb := fun e => hrr1 (by rw [e]; rfl)
   have HCL : Hid ((q.map cls).length = n ∧ q.length = n ∧ w.heap.size ≤ gr ∧ w.heap.size ≤ gt ∧ w.heap.size ≤ lb) := ⟨by simp [hn], hn.symm, hgrB, hgtB, HLb.out.1⟩
   clear hN hR hrt1 hrr1 hql hlt hgrB hgtB hl hn
   -- the classes
   have hL1 : LB (wr.alloc (.cells (madeCells #[.int .i64 0] n) 108)) lb _ _ _ _ _ _ := hLB.grown (alloc_grown2 wr _ none) (by simp)
   have c1 := hLB.c1
   obtain ⟨d2, e2⟩ := hL1.c2
   have hO1 : RowAt (wr.alloc (.cells (madeCells #[.int .i64 0] n) 108)) w.heap.size 108 wr.heap.size n (List.replicate n (.int .i64 0)) := RowAt.made hB.size (by omega)
   have hg1 : wr.grownBy ((wr.alloc (.cells (madeCells #[.int .i64 0] n) 108)).setCell ⟨lb, 2, none⟩ (.slice (some ⟨wr.heap.size, 0, none⟩) n n)) (some lb) := (alloc_grown2 wr _ _).trans (set_grown _ lb 2 _)
   have hL2 := hL1.s2 (.slice (some ⟨wr.heap.size, 0, none⟩) n n)
   have hO2 : RowAt ((wr.alloc (.cells (madeCells #[.int .i64 0] n) 108)).setCell ⟨lb, 2, none⟩ (.slice (some ⟨wr.heap.size, 0, none⟩) n n)) w.heap.size 108 wr.heap.size n (List.replicate n (.int .i64 0)) := hO1.setOther lb 2 _ (by omega)
   have hB2 : Below w.heap.size w ((wr.alloc (.cells (madeCells #[.int .i64 0] n) 108)).setCell ⟨lb, 2, none⟩ (.slice (some ⟨wr.heap.size, 0, none⟩) n n)) := (hB.alloc hB.size _).setCell (p := ⟨lb, 2, none⟩) HLb.out.1 _
   have hrr2 := own_grown2 hrr hg1 nrl
   have hrt2 := own_grown2 hrt hg1 ngl
   have hz2 : ((wr.alloc (.cells (madeCells #[.int .i64 0] n) 108)).setCell ⟨lb, 2, none⟩ (.slice (some ⟨wr.heap.size, 0, none⟩) n n)).heap.size = wr.heap.size + 1 := by simp
   have h2 := And.intro hL2 (And.intro hO2 (And.intro hB2 (And.intro hrr2 (And.intro hrt2 hz2))))
   have H2 : Hid _ := h2
   have HLt : Hid (gr < wr.heap.size ∧ gt < wr.heap.size ∧ lb < wr.heap.size) := ⟨hgr, hgt, hlbw⟩
   clear hLB hL1 hO1 hg1 hL2 hO2 hB2 hrr2 hrt2 hz2 hrr hrt hB hgr hgt hlbw h2
   obtain ⟨gc, hgc⟩ : ∃ gc, gc = wr.heap.size := ⟨_, rfl⟩
   go_wp2
   generalize ((wr.alloc (.cells (madeCells #[.int .i64 0] n) 108)).setCell ⟨lb, 2, none⟩ (.slice (some ⟨wr.heap.size, 0, none⟩) n n)) = W2 at *
   rw [← hgc] at H2 HLt ⊢
   clear hgc c1 d2 e2 hnx
   obtain ⟨hL2, hO2, hB2, hrr2, hrt2, hz2⟩ := H2.out
   clear H2
   -- the copy
   obtain ⟨W3, hcp, hh3, hg3⟩ := copy_all (P := Tryz.prog) (w := W2.drew) (sT := 139) (e := 108) (ty := 3) (g := gc) Tryz.underlying139 Tryz.sizeCls (RowAt.heap hO2) (by simp) (World.ownsRow.drew hrt2) (fun v hv => by simp only [iv, List.mem_map] at hv; obtain ⟨x, _, rfl⟩ := hv; rfl)
   have hg3' : W2.grownBy W3 (some gc) := (show W2.grownBy W2.drew (some gc) from ⟨rfl, rfl, rfl, Nat.le_refl _, fun _ _ _ => rfl⟩).trans hg3
   have ngc : gt ≠ gc ∧ gr ≠ gc ∧ lb ≠ gc := by have := HLt.out; omega
   have hL3 : LB W3 lb _ _ _ _ _ _ := hL2.grown hg3' (by simp; omega)
   have hO3 : RowAt W3 w.heap.size 108 gc n (iv (q.map cls)) := RowAt.ofHeap hh3 (by have := hO2.lt gc rfl; exact this.1) (by rw [iv_length, HCL.out.1]) (by omega)
   have hB3 : Below w.heap.size w W3 := hB2.grown hg3' hB2.size (fun k hk => by cases hk; exact (hO2.lt gc rfl).1)
   have hrr3 := own_grown2 hrr2 hg3' ngc.2.1
   have hrt3 := own_grown2 hrt2 hg3' ngc.1
   have hz3 : gc + 1 ≤ W3.heap.size := by have := hg3'.size; omega
   obtain ⟨c2, _⟩ := hL2.c2
   have c1 := hL2.c1
   have h3 := And.intro hL3 (And.intro hO3 (And.intro hB3 (And.intro hrr3 (And.intro hrt3 hz3))))
   have H3 : Hid _ := h3
   clear hL2 hO2 hB2 hrr2 hrt2 hz2 hh3 hg3 hg3' hL3 hO3 hB3 hrr3 hrt3 hz3 h3
   go_region
   all_goals
    clear c1 c2 hcp
    obtain ⟨hL3, hO3, hB3, hrr3, hrt3, hz3⟩ := H3.out
    clear H3
    have hL4 : LB (W3.alloc (.cells (madeCells #[.int .i64 0] n) 3)) lb _ _ _ _ _ _ := hL3.grown (alloc_grown2 W3 _ none) (by simp)
    have c1 := hL3.c1
    obtain ⟨d3, e3⟩ := hL4.c3
    have hO4 : RowAt (W3.alloc (.cells (madeCells #[.int .i64 0] n) 3)) w.heap.size 3 W3.heap.size n (List.replicate n (.int .i64 0)) := RowAt.made hB3.size (by omega)
    have hg4 : W3.grownBy ((W3.alloc (.cells (madeCells #[.int .i64 0] n) 3)).setCell ⟨lb, 3, none⟩ (.slice (some ⟨W3.heap.size, 0, none⟩) n n)) (some lb) := (alloc_grown2 W3 _ _).trans (set_grown _ lb 3 _)
    have hL5 := hL4.s3 (.slice (some ⟨W3.heap.size, 0, none⟩) n n)
    have hO5 : RowAt ((W3.alloc (.cells (madeCells #[.int .i64 0] n) 3)).setCell ⟨lb, 3, none⟩ (.slice (some ⟨W3.heap.size, 0, none⟩) n n)) w.heap.size 3 W3.heap.size n (List.replicate n (.int .i64 0)) := hO4.setOther lb 3 _ (by have := HLt.out; omega)
    have hB5 : Below w.heap.size w ((W3.alloc (.cells (madeCells #[.int .i64 0] n) 3)).setCell ⟨lb, 3, none⟩ (.slice (some ⟨W3.heap.size, 0, none⟩) n n)) := (hB3.alloc hB3.size _).setCell (p := ⟨lb, 3, none⟩) HLb.out.1 _
    have hrr5 := own_grown2 hrr3 hg4 nrl
    have hrt5 := own_grown2 hrt3 hg4 ngl
    have hrc5 : ((W3.alloc (.cells (madeCells #[.int .i64 0] n) 3)).setCell ⟨lb, 3, none⟩ (.slice (some ⟨W3.heap.size, 0, none⟩) n n)).ownsRow w.heap.size 108 1 (.slice (some ⟨gc, 0, none⟩) n n) n (iv (q.map cls)) := own_grown2 hO3 hg4 (by have := HLt.out; omega)
    have hz5 : ((W3.alloc (.cells (madeCells #[.int .i64 0] n) 3)).setCell ⟨lb, 3, none⟩ (.slice (some ⟨W3.heap.size, 0, none⟩) n n)).heap.size = W3.heap.size + 1 := by simp
    have h5 := And.intro hL5 (And.intro hO5 (And.intro hB5 (And.intro hrr5 (And.intro hrt5 (And.intro hrc5 hz5)))))
    have H5 : Hid _ := h5
    have HZ3 : Hid (gc + 1 ≤ W3.heap.size) := hz3
    have c1b := hL5.c1
    clear hL3 hO3 hB3 hrr3 hrt3 hz3 hL4 hO4 hg4 hL5 hO5 hB5 hrr5 hrt5 hrc5 hz5 h5
    obtain ⟨gl, hgl⟩ : ∃ gl, gl = W3.heap.size := ⟨_, rfl⟩
    go_wp2_with fail
    generalize ((W3.alloc (.cells (madeCells #[.int .i64 0] n) 3)).setCell ⟨lb, 3, none⟩ (.slice (some ⟨W3.heap.size, 0, none⟩) n n)) = W5 at *
    rw [← hgl] at H5 HZ3 ⊢
    clear hgl c1 d3 e3 c1b
    obtain ⟨hL5, hO5, hB5, hrr5, hrt5, hrc5, hz5⟩ := H5.out
    clear H5
    have hMt : Calls Tryz.prog 140 #[.slice (some ⟨gt, 0, none⟩) n ct] W5 fun e w' => ∃ g, e = .returned (.slice (some ⟨g, 0, none⟩) n n) ∧ RowAt w' W5.heap.size 3 g n (iv (matchL (q.map cls))) ∧ Below W5.heap.size W5 w' := matches_row (q.map cls) n gt 0 ct W5 HCL.out.1 (by omega) (fun k hk => by rw [Nat.zero_add]; exact own_icell hrt5 k hk) (by have := HLt.out; have := HZ3.out; omega)
    have HMt : Hid (Calls Tryz.prog 140 #[.slice (some ⟨gt, 0, none⟩) n ct] W5 fun e w' => ∃ g, e = .returned (.slice (some ⟨g, 0, none⟩) n n) ∧ RowAt w' W5.heap.size 3 g n (iv (matchL (q.map cls))) ∧ Below W5.heap.size W5 w') := hMt
    have c1 := hL5.c1
    have h5 := And.intro hL5 (And.intro hO5 (And.intro hB5 (And.intro hrr5 (And.intro hrt5 (And.intro hrc5 hz5)))))
    have H5 : Hid _ := h5
    clear hL5 hO5 hB5 hrr5 hrt5 hrc5 hz5 h5 hMt
    refine HMt.out.mono ?_
    rintro ev W6 ⟨gm, rfl, hm6, hb6⟩
    clear HMt
    obtain ⟨hL5, hO5, hB5, hrr5, hrt5, hrc5, hz5⟩ := H5.out
    clear H5
    obtain ⟨hgmB, hgmz⟩ := hm6.lt gm rfl
    have hL6 := hL5.below hb6
    obtain ⟨d4, e4⟩ := hL6.c4
    have hL7 := hL6.s4 (.slice (some ⟨gm, 0, none⟩) n n)
    have hg7 : W6.grownBy (W6.setCell ⟨lb, 4, none⟩ (.slice (some ⟨gm, 0, none⟩) n n)) (some lb) := set_grown _ lb 4 _
    have hB7 : Below w.heap.size w (W6.setCell ⟨lb, 4, none⟩ (.slice (some ⟨gm, 0, none⟩) n n)) := (hB5.trans (hb6.mono hB5.size)).setCell (p := ⟨lb, 4, none⟩) HLb.out.1 _
    have hrr7 := own_grown2 (own_below hrr5 hb6) hg7 nrl
    have hrt7 := own_grown2 (own_below hrt5 hb6) hg7 ngl
    have hrc7 := own_grown2 (own_below hrc5 hb6) hg7 (by have := HLt.out; omega)
    have hrl7 := own_grown2 (own_below hO5 hb6) hg7 (by have := HLt.out; have := HZ3.out; omega)
    have hrm7 := own_grown2 hm6 hg7 (by have := HLt.out; have := HZ3.out; omega)
    have HNe : Hid (gl ≠ lb ∧ gl ≠ gr ∧ gl ≠ gt ∧ gl ≠ gc ∧ gl ≠ gm ∧ gc ≠ lb ∧ gc ≠ gr ∧ gc ≠ gt ∧ gc ≠ gm) := by
     have h1 := HLt.out
     have h2 := HZ3.out
     refine ⟨?_, ?_, ?_, ?_, ?_, ?_, ?_, ?_, ?_⟩ <;> omega
    have hz7 : ∀ g, g = lb ∨ g = gr ∨ g = gt ∨ g = gc ∨ g = gl ∨ g = gm → g < (W6.setCell ⟨lb, 4, none⟩ (.slice (some ⟨gm, 0, none⟩) n n)).heap.size := by
     have h1 := HLt.out
     have h2 := HZ3.out
     have h3 := hb6.size
     intro g hg
     rw [World.size_setCell]
     omega
    have hLR : LnR (W6.setCell ⟨lb, 4, none⟩ (.slice (some ⟨gm, 0, none⟩) n n)) lb gt gm n ct n (.slice (some ⟨gr, 0, none⟩) n cr) (.slice (some ⟨gc, 0, none⟩) n n) (.slice (some ⟨gl, 0, none⟩) n n) 0 (q.map cls) :=
     ⟨hL7, fun k hk => by rw [Nat.zero_add]; exact own_icell hrt7 k hk, fun k hk => by rw [Nat.zero_add]; exact own_icell hrm7 k hk, HCL.out.1⟩
    have HPa : Hid (Calls Tryz.prog 141 #[.pointer (some ⟨lb, 0, none⟩), .int .i64 d] (W6.setCell ⟨lb, 4, none⟩ (.slice (some ⟨gm, 0, none⟩) n n)) fun e w' => e = .returned (.int .i64 (paraL (q.map cls) d)) ∧ w' = (W6.setCell ⟨lb, 4, none⟩ (.slice (some ⟨gm, 0, none⟩) n n))) := para_any _ lb gt gm n ct n _ _ _ 0 (q.map cls) hLR (by omega) d
    have h7 := And.intro hL7 (And.intro hB7 (And.intro hrr7 (And.intro hrt7 (And.intro hrc7 (And.intro hrl7 (And.intro hrm7 hz7))))))
    have H7 : Hid _ := h7
    clear hL5 hO5 hB5 hrr5 hrt5 hrc5 hz5 hL6 hL7 hg7 hB7 hrr7 hrt7 hrc7 hrl7 hrm7 hz7 hLR h7 hm6 hb6 hgmB hgmz c1
    go_wp2_with fail
    generalize (W6.setCell ⟨lb, 4, none⟩ (.slice (some ⟨gm, 0, none⟩) n n)) = W7 at *
    refine HPa.out.mono ?_
    rintro ev wx ⟨rfl, hx⟩
    have hx' := hx.symm
    subst hx'
    clear HPa d4 e4
    obtain ⟨hL7, hB7, hrr7, hrt7, hrc7, hrl7, hrm7, hz7⟩ := H7.out
    clear H7
    generalize hpv : paraL (q.map cls) d = pp at *
    obtain ⟨d5, e5⟩ := hL7.c5
    have hL8 := hL7.s5 (.int .i64 pp)
    have hg8 : W7.grownBy (W7.setCell ⟨lb, 5, none⟩ (.int .i64 pp)) (some lb) := set_grown _ lb 5 _
    have hB8 : Below w.heap.size w (W7.setCell ⟨lb, 5, none⟩ (.int .i64 pp)) := hB7.setCell (p := ⟨lb, 5, none⟩) HLb.out.1 _
    have hrr8 := own_grown2 hrr7 hg8 nrl
    have hrt8 := own_grown2 hrt7 hg8 ngl
    have hrc8 := own_grown2 hrc7 hg8 HNe.out.2.2.2.2.2.1
    have hrl8 := own_grown2 hrl7 hg8 HNe.out.1
    have hrm8 := own_grown2 hrm7 hg8 (by rintro rfl; exact own_ne_cells hrm7 hL7 (by decide) rfl)
    have HX : Hid (LX (W7.setCell ⟨lb, 5, none⟩ (.int .i64 pp)) ⟨w.heap.size, lb, gr, gt, gc, gl, gm, n, cr, ct, pp, q, q.map cls⟩ (q.map cls) (List.replicate n 0)) := by
     refine ⟨hL8, fun k hk => ?_, fun k hk => by rw [Nat.zero_add]; exact own_icell hrt8 k hk, fun k hk => by rw [Nat.zero_add]; exact own_icell hrm8 k hk, HCL.out.1, hrc8, ?_, ?_, ?_, ?_⟩
     ·rw [World.ownsRow.cellAt hrr8 k (by simpa using hk)]
      have : k < q.length := by rw [HCL.out.2.1]; exact hk
      simp [rv32, List.getD_eq_getElem?_getD, List.getElem?_eq_getElem this]
     ·show World.ownsRow _ _ _ _ _ _ _
      rw [iv, List.map_replicate]
      exact hrl8
     ·intro g hg
      rw [World.size_setCell]
      apply hz7
      unfold LP.has at hg
      omega
     ·exact ⟨HNe.out.1, HNe.out.2.1, HNe.out.2.2.1, HNe.out.2.2.2.1, HNe.out.2.2.2.2.1⟩
     ·exact ⟨HNe.out.2.2.2.2.2.1, HNe.out.2.2.2.2.2.2.1, HNe.out.2.2.2.2.2.2.2.1, HNe.out.2.2.2.2.2.2.2.2⟩
    have HB8 : Hid (Below w.heap.size w (W7.setCell ⟨lb, 5, none⟩ (.int .i64 pp))) := hB8
    have HPV : Hid (paraL (q.map cls) d = pp) := hpv
    clear hL7 hB7 hrr7 hrt7 hrc7 hrl7 hrm7 hz7 hL8 hg8 hB8 hrr8 hrt8 hrc8 hrl8 hrm8 hpv
    go_wp2
    go_ret
    exact ⟨⟨w.heap.size, lb, gr, gt, gc, gl, gm, n, cr, ct, pp, q, q.map cls⟩, rfl, HX.out, rfl, rfl, HCL.out.2.1.symm, HPV.out.symm, rfl, HB8.out⟩
end Go.Proofs.YtkbinfhclaafhaaGreatDoor
namespace Go.Proofs.YtkbinfhclaafhaaGreatDoor
open Go.RowKit
set_option maxRecDepth 100000 in
set_option maxHeartbeats 8000000 in
theorem setExpl_some (w : World) (L : LP) (h : LX w L L.cs (List.replicate L.n 0)) (hB : L.B ≤ w.heap.size) (hp : 0 ≤ L.p ∧ L.p ≤ 125) (hn : L.n ≤ 1000) :
  Calls Tryz.prog 85 #[.pointer (some ⟨L.lb, 0, none⟩)] w fun e w' => e = .returned (.tuple #[]) ∧ LX w' L (kP L.cs L.p) (xLevels L.cs L.p) ∧ Below L.B w w' := by
 obtain ⟨s, hs⟩ : ∃ s, s = w.heap.size := ⟨_, rfl⟩
 have hb1 : Below w.heap.size w (w.alloc (.cells #[.pointer (some ⟨L.lb, 0, none⟩), .slice none 0 0, .int .i64 0, .int .i64 0, .int .i64 0] 212)) := (Below.refl _ _).alloc (Nat.le_refl _) _
 have HX1 : Hid (XP (w.alloc (.cells #[.pointer (some ⟨L.lb, 0, none⟩), .slice none 0 0, .int .i64 0, .int .i64 0, .int .i64 0] 212)) L s (.slice none 0 0) L.cs (List.replicate L.n 0) ⟨[], 0, 0, 0⟩) :=
  ⟨⟨by rw [hs]; exact Array.getElem?_push_size, ⟨rfl, .inl ⟨rfl, rfl⟩⟩, by rw [hs]; exact hB⟩, h.below hb1, fun g hg => ⟨by have := h.lt g hg; omega, by simp [Value.ownBlock]⟩⟩
 have c5 : (w.alloc (.cells #[.pointer (some ⟨L.lb, 0, none⟩), .slice none 0 0, .int .i64 0, .int .i64 0, .int .i64 0] 212)).cell? ⟨L.lb, 5, none⟩ = some (.int .i64 L.p) := heap_cell HX1.out.ln.cell 5
 have HB1 : Hid (Below L.B w (w.alloc (.cells #[.pointer (some ⟨L.lb, 0, none⟩), .slice none 0 0, .int .i64 0, .int .i64 0, .int .i64 0] 212))) := hb1.mono hB
 have HLn : Hid (L.cs.length = L.n) := h.len
 clear h hb1
 go_enter Tryz.func85, Tryz.ntmps85
 go_wp2_with fail
 rw [← hs]
 clear hs
 refine (pushE_any _ L.B s _ _ _ L.p (-1) false HX1.out.wk (by simp)).mono ?_
 rintro ev w2 ⟨rfl, v2, hW, hF⟩
 have HX2 : Hid (XP w2 L s v2 L.cs (List.replicate L.n 0) (xAt L.cs L.p 0)) := HX1.out.frs hW hF
 have HB2 : Hid (Below L.B w w2) := hF.belowW HX1.out.wk HB1.out
 have a1 : w2.cell? ⟨L.lb, 1, none⟩ = some (.slice (some ⟨L.gt, 0, none⟩) L.n L.ct) := heap_cell HX2.out.ln.cell 1
 clear hW hF HX1 HB1 c5
 go_wp2
 clear a1
 go_loopg [18] L.n (fun gh kv W => ∃ (k : Nat) (v : Value) (ks ls : List Int), k ≤ L.n ∧ gh = L.n - k ∧ kv = .int .i64 k ∧ XP W L s v ks ls (xAt L.cs L.p k) ∧ Below L.B w W ∧ KTo L.n k ks (fun j => ovO (L.cs.getD j 0) (xTop L.cs L.p j).o) (fun j => L.cs.getD j 0) ∧ KTo L.n k ls (fun j => (xTop L.cs L.p j).l) (fun _ => 0))
 case atStart =>
  refine ⟨0, v2, L.cs, List.replicate L.n 0, by omega, rfl, rfl, HX2.out, HB2.out, ⟨HLn.out, fun j _ => by rw [if_neg (by omega)]⟩, ⟨by simp, fun j hj => ?_⟩⟩
  rw [if_neg (by omega), List.getD_eq_getElem?_getD, List.getElem?_replicate, if_pos hj]; rfl
 case round =>
  clear HX2 HB2
  obtain ⟨k, v, ks, ls, hk, rfl, rfl, hX, hBl, hK, hL⟩ := hrel
  by_cases hlt : k < L.n
  ·have hlt' : (k : Int) < (L.n : Int) := by omega
   have ek : ks.getD k 0 = L.cs.getD k 0 := by have := hK.2 k hlt; rw [if_neg (by omega)] at this; exact this
   have HK : Hid (KTo L.n (k + 1) (ks.set k (ovO (ks.getD k 0) (topE (xPre (xAt L.cs L.p k) (L.cs.getD k 0)).st).o)) (fun j => ovO (L.cs.getD j 0) (xTop L.cs L.p j).o) (fun j => L.cs.getD j 0)) := by rw [ek]; exact hK.step hlt
   have HL : Hid (KTo L.n (k + 1) (ls.set k (topE (xPre (xAt L.cs L.p k) (L.cs.getD k 0)).st).l) (fun j => (xTop L.cs L.p j).l) (fun _ => 0)) := hL.step hlt
   have HS : Hid (Calls Tryz.prog 143 #[.pointer (some ⟨s, 0, none⟩), .int .i64 k] wr fun ev w' => ev = .returned (.tuple #[]) ∧ ∃ v', XP w' L s v' (ks.set k (ovO (ks.getD k 0) (topE (xPre (xAt L.cs L.p k) (L.cs.getD k 0)).st).o)) (ls.set k (topE (xPre (xAt L.cs L.p k) (L.cs.getD k 0)).st).l) (xAt L.cs L.p (k + 1)) ∧ Below L.B wr w') := stepW_any wr L s v ks ls (xAt L.cs L.p k) k hX (xAt_ok L.cs L.p hp k) (by omega) hn k hlt
   have HBr : Hid (Below L.B w wr) := hBl
   clear hX hBl hK hL ek
   go_wp2_with fail
   refine HS.out.mono ?_
   rintro ev w3 ⟨rfl, v3, hX3, hB3⟩
   have HX3 : Hid _ := hX3
   have HB3 : Hid _ := HBr.out.trans hB3
   clear hX3 hB3 HS
   go_wp2
   go_roundg (L.n - (k + 1))
   case measure => omega
   case rel => exact ⟨k + 1, v3, _, _, by omega, rfl, by go_num, HX3.out, HB3.out, HK.out, HL.out⟩
  ·obtain rfl : k = L.n := by omega
   have HX : Hid (LX wr L ks ls) := hX.ln
   have HBr : Hid (Below L.B w wr) := hBl
   have HK : Hid (ks = kP L.cs L.p) := by show _ = _; rw [hK.done, kP, HLn.out]
   have HL : Hid (ls = xLevels L.cs L.p) := by show _ = _; rw [hL.done, xLevels, HLn.out]
   clear hX hBl hK hL
   go_wp2
   go_end0
   refine ⟨rfl, ?_, HBr.out⟩
   rw [← HK.out, ← HL.out]
   exact HX.out
end Go.Proofs.YtkbinfhclaafhaaGreatDoor
