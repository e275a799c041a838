import Derived.Test.YtkbinfhclaafhaaGreatDoorRunes
import Derived.Deep.RegionWith
namespace Go.Proofs.YtkbinfhclaafhaaGreatDoor
open Go.RowKit

set_option maxHeartbeats 1000000 in
theorem classes_row (l : List Int) (b off cap n : Nat) (w : World) (hl : l.length = n) (hn : n ≤ 1000) (hc : IntsAt w b off l) :
    Calls Tryz.prog 46 #[.slice (some ⟨b, off, none⟩) n cap] w fun e w' => ∃ v, e = .returned v ∧ w'.ownsRow w.heap.size 3 1 v n ((l.map cls).map (Value.int .i64)) ∧ Below w.heap.size w w' := by
  obtain ⟨i0, hi, hz0, hz1, hz2⟩ := info_parts Tryz.infoInt
  have HC : Hid (IntsAt w b off l) := hc
  have HL : Hid (l.length = n) := hl
  clear hc hl
  go_enter Tryz.func46, Tryz.ntmps46
  go_wp2
  go_loopw [3, 4] (fun v i wr => ∃ k : Nat, k ≤ n ∧ i = .int .i64 k ∧ wr.ownsRow w.heap.size 3 1 v k (((l.take k).map cls).map (Value.int .i64)) ∧ Below w.heap.size w wr) (fun _ i _ => n - (intOf i).toNat)
  case atStart => exact ⟨0, Nat.zero_le _, rfl, World.ownsRow_nil _ _ _ _, Below.refl _ _⟩
  case round =>
    obtain ⟨k, hk, rfl, hown, hb⟩ := hrel
    have hbz := hb.size
    by_cases hlt : k < n
    · have hcell := (HC.out.below hb) k (by rw [HL.out]; exact hlt)
      obtain ⟨x, hx⟩ : ∃ x, x = l.getD k 0 := ⟨_, rfl⟩
      rw [← hx] at hcell
      have HX : Hid ((l.take (k + 1)).map cls = (l.take k).map cls ++ [cls x]) := by
        have hk' : k < l.length := by rw [HL.out]; exact hlt
        show (l.take (k + 1)).map cls = (l.take k).map cls ++ [cls x]
        rw [hx, List.take_succ_eq_append_getElem hk', List.map_append]
        simp [List.getD_eq_getElem?_getD, List.getElem?_eq_getElem hk']
      clear hx
      have hlt' : (k : Int) < (n : Int) := by omega
      go_wp2_with fail
      refine (class_any x _).mono ?_
      rintro e w1 ⟨rfl, hb1⟩
      have hown1 : w1.ownsRow w.heap.size 3 1 _ k (((l.take k).map cls).map (Value.int .i64)) := hown.kept ⟨hb1.os, hb1.tape, hb1.output, hb1.size, fun j hj _ => hb1.block j hj⟩ (row := none) (by rcases hown.2 with ⟨rfl, _⟩ | ⟨g, c, cur, rfl, _⟩ <;> simp [Value.ownBlock])
      have hb2 : Below w.heap.size w w1 := hb.trans (hb1.mono hbz)
      have hbz2 := hb2.size
      clear hown hb hb1 hcell
      go_wp2_with (at_builtin; refine wpList_push _ rfl _ _ 31 rfl w.heap.size 3 i0 (.int .i64 0) 8 Tryz.underlying31 hi hz0 hz1 hz2 rfl (by decide) _ _ _ rfl hown1 _ _ rfl rfl (by omega) (by omega) ?_)
      intro v' w2 hown' hb'
      clear hown1
      go_wp2
      go_roundw
      case rel => exact ⟨k + 1, by omega, by go_num, by rw [HX.out]; simpa using hown', hb2.trans hb'⟩
      case measure => simp [intOf]; omega
    · go_wp2
      go_ret
      refine ⟨_, rfl, ?_, hb⟩
      have e : k = n := by omega
      subst e
      rwa [List.take_of_length_le (by rw [HL.out]; omega)] at hown
theorem classes_nil (w : World) :
    Calls Tryz.prog 46 #[.slice none 0 0] w fun e w' => e = .returned (.slice none 0 0) ∧ w' = w := by
  go_enter Tryz.func46, Tryz.ntmps46
  go_wp2
  refine wp_loop_rounds 1 ?_
  rw [rounds_succ]
  go_wp2
  go_ret
  exact ⟨rfl, rfl⟩
theorem classes_any (l : List Int) (v : Value) (w : World) (hl : l.length ≤ 1000) (hv : SlI w v l) :
    Calls Tryz.prog 46 #[v] w fun e w' => ∃ v', e = .returned v' ∧ w'.ownsRow w.heap.size 3 1 v' l.length ((l.map cls).map (Value.int .i64)) ∧ Below w.heap.size w w' := by
  rcases hv with ⟨rfl, rfl⟩ | ⟨b, off, cap, rfl, hc⟩
  · refine (classes_nil w).mono ?_
    rintro e w' ⟨rfl, rfl⟩
    exact ⟨_, rfl, World.ownsRow_nil _ _ _ _, Below.refl _ _⟩
  · exact classes_row l b off cap l.length w rfl hl hc

/-- P2: the error of a line, as a number; its runes. -/
def askErr (s : ByteArray) : Int := if 600 < s.size then 1 else match runesOf s with
  | none => 2
  | some l => if amongB 10 l = true then 2 else if 300 < l.length then 1 else 0
def askRunes (s : ByteArray) : List Int := if askErr s = 0 then (runesOf s).getD [] else []
def faultV (e : Int) : Value := .agg #[.int .i64 e, .int .i64 (if e = 0 then 0 else -1), .int .i64 (if e = 0 then 0 else -1)]

theorem ask_long {s : ByteArray} (h : 600 < s.size) : askErr s = 1 := if_pos h
theorem ask_none {s : ByteArray} (h : ¬ 600 < s.size) (hr : runesOf s = none) : askErr s = 2 := by unfold askErr; rw [if_neg h, hr]
theorem ask_feed {s : ByteArray} {l : List Int} (h : ¬ 600 < s.size) (hr : runesOf s = some l) (ha : amongB 10 l = true) : askErr s = 2 := by unfold askErr; rw [if_neg h, hr]; exact if_pos ha
theorem ask_many {s : ByteArray} {l : List Int} (h : ¬ 600 < s.size) (hr : runesOf s = some l) (ha : ¬ amongB 10 l = true) (hl : 300 < l.length) : askErr s = 1 := by unfold askErr; rw [if_neg h, hr]; exact (if_neg ha).trans (if_pos hl)
theorem ask_ok {s : ByteArray} {l : List Int} (h : ¬ 600 < s.size) (hr : runesOf s = some l) (ha : ¬ amongB 10 l = true) (hl : ¬ 300 < l.length) : askErr s = 0 := by unfold askErr; rw [if_neg h, hr]; exact (if_neg ha).trans (if_neg hl)
theorem askRunes_err {s : ByteArray} (h : askErr s ≠ 0) : askRunes s = [] := if_neg h
theorem askRunes_ok {s : ByteArray} {l : List Int} (h : askErr s = 0) (hr : runesOf s = some l) : askRunes s = l := by unfold askRunes; rw [if_pos h, hr]; rfl

set_option maxHeartbeats 1000000 in
theorem asked_long (s : ByteArray) (w : World) (hs : (600 : Int) < (s.size : Int)) :
    Calls Tryz.prog 45 #[.string s] w fun e w' => e = .returned (.tuple #[.slice none 0 0, .agg #[.int .i64 1, .int .i64 (-1), .int .i64 (-1)]]) ∧ Below w.heap.size w w' := by
  go_enter Tryz.func45, Tryz.ntmps45
  go_wp2
  exact bodyPost_ret (v := .tuple #[.slice none 0 0, .agg #[.int .i64 1, .int .i64 (-1), .int .i64 (-1)]]) (by simp [results, Tryz.results45, go_sem]) rfl ⟨rfl, (Below.refl _ _).alloc (Nat.le_refl _) _⟩

set_option maxHeartbeats 1000000 in
theorem asked_short (s : ByteArray) (w : World) (hs : (s.size : Int) ≤ 600) :
    Calls Tryz.prog 45 #[.string s] w fun e w' => Below w.heap.size w w' ∧ ∃ v, e = .returned (.tuple #[v, faultV (askErr s)]) ∧ SlI w' v (askRunes s) ∧ (askErr s ≠ 0 → v = .slice none 0 0) := by
  have hs6 : ¬ 600 < s.size := by omega
  go_enter Tryz.func45, Tryz.ntmps45
  go_wp2_with fail
  refine (runes_any s _ (by omega)).mono ?_
  rintro e w1 ⟨hb, (⟨hr, p, rfl⟩ | ⟨v, l, hr, hll, rfl, hown⟩)⟩
  · obtain ⟨hc, hf⟩ := bcell hb
    have HE : Hid (askErr s = 2) := ask_none hs6 hr
    have HR : Hid (runesOf s = none) := hr
    clear hr
    have hp : (0 : Int) ≤ (p : Int) := by omega
    go_wp2_with fail
    refine (among_nil 10 _).mono ?_
    rintro e w2 ⟨rfl, rfl⟩
    go_wp2
    have hB : Below w.heap.size w (((w2.setCell ⟨w.heap.size, 0, none⟩ (.int .i64 2)).setCell ⟨w.heap.size, 1, none⟩ (.int .i64 (-1))).setCell ⟨w.heap.size, 2, none⟩ (.int .i64 (-1))) :=
      (((((Below.refl _ _).alloc (Nat.le_refl _) _).trans (hb.mono (by simp))).setCell (Nat.le_refl _) _).setCell (Nat.le_refl _) _).setCell (Nat.le_refl _) _
    refine bodyPost_ret (v := .tuple #[.slice none 0 0, .agg #[.int .i64 2, .int .i64 (-1), .int .i64 (-1)]]) (by simp [results, Tryz.results45, go_sem, hc]) rfl ⟨hB, _, by rw [HE.out]; rfl, ?_, fun _ => rfl⟩
    exact .inl ⟨rfl, askRunes_err (by rw [HE.out]; decide)⟩
  · obtain ⟨hc, hf⟩ := bcell hb
    have HR : Hid (runesOf s = some l) := hr
    have HO : Hid (w1.ownsRow _ 3 1 v l.length (l.map (Value.int .i64))) := hown
    have hsl := SlI.of_owns hown
    clear hr hown
    have hB3 : ∀ x y z : Value, Below w.heap.size w (((w1.setCell ⟨w.heap.size, 0, none⟩ x).setCell ⟨w.heap.size, 1, none⟩ y).setCell ⟨w.heap.size, 2, none⟩ z) := fun _ _ _ =>
      (((((Below.refl _ _).alloc (Nat.le_refl _) _).trans (hb.mono (by simp))).setCell (Nat.le_refl _) _).setCell (Nat.le_refl _) _).setCell (Nat.le_refl _) _
    have HB : Hid (∀ x y z : Value, Below w.heap.size w (((w1.setCell ⟨w.heap.size, 0, none⟩ x).setCell ⟨w.heap.size, 1, none⟩ y).setCell ⟨w.heap.size, 2, none⟩ z)) := hB3
    have HS : Hid (∀ x y z : Value, SlI (((w1.setCell ⟨w.heap.size, 0, none⟩ x).setCell ⟨w.heap.size, 1, none⟩ y).setCell ⟨w.heap.size, 2, none⟩ z) v l) := fun _ _ _ =>
      SlI.of_owns (ownsRow_setCell_below (ownsRow_setCell_below (ownsRow_setCell_below HO.out (by simp) _) (by simp) _) (by simp) _)
    clear hB3
    obtain ⟨len, cap, ao, hv⟩ : ∃ len cap ao, v = .slice ao len cap ∧ len = l.length := by
      rcases HO.out.2 with ⟨rfl, h0⟩ | ⟨g, cap, cur, rfl, _⟩
      · exact ⟨_, _, _, rfl, by omega⟩
      · exact ⟨_, _, _, rfl, rfl⟩
    obtain ⟨rfl, rfl⟩ := hv
    go_wp2_with fail
    refine (among_any 10 l _ _ (by omega) hsl).mono ?_
    rintro e w2 ⟨rfl, rfl⟩
    clear hsl HO hb
    by_cases ha : amongB 10 l = true
    · have HE : Hid (askErr s = 2) := ask_feed hs6 HR.out ha
      go_wp2
      refine bodyPost_ret (v := .tuple #[.slice none 0 0, .agg #[.int .i64 2, .int .i64 (-1), .int .i64 (-1)]]) (by simp [results, Tryz.results45, go_sem, hc]) rfl ⟨HB.out _ _ _, _, by rw [HE.out]; rfl, ?_, fun _ => rfl⟩
      exact .inl ⟨rfl, askRunes_err (by rw [HE.out]; decide)⟩
    · have HA : Hid (¬ amongB 10 l = true) := ha
      have ha : amongB 10 l = false := by simpa using ha
      by_cases h3 : 300 < l.length
      · have HE : Hid (askErr s = 1) := ask_many hs6 HR.out HA.out h3
        go_wp2
        refine bodyPost_ret (v := .tuple #[.slice none 0 0, .agg #[.int .i64 1, .int .i64 (-1), .int .i64 (-1)]]) (by simp [results, Tryz.results45, go_sem, hc]) rfl ⟨HB.out _ _ _, _, by rw [HE.out]; rfl, ?_, fun _ => rfl⟩
        exact .inl ⟨rfl, askRunes_err (by rw [HE.out]; decide)⟩
      · have HE : Hid (askErr s = 0) := ask_ok hs6 HR.out HA.out h3
        go_wp2
        refine bodyPost_ret (v := .tuple #[.slice ao l.length cap, .agg #[.int .i64 0, .int .i64 0, .int .i64 0]]) (by simp [results, Tryz.results45, go_sem, hc]) rfl ⟨HB.out _ _ _, _, by rw [HE.out]; rfl, ?_, fun h => absurd HE.out h⟩
        rw [askRunes_ok HE.out HR.out]
        exact HS.out _ _ _

theorem _root_.Go.World.ownsRow.low {w : World} {base base' : Nat} {e : TypeId} {size : Nat} {v : Value} {n : Nat} {xs : List Value} (h : w.ownsRow base e size v n xs) (hb : base' ≤ base) : w.ownsRow base' e size v n xs := by
  refine ⟨h.1, ?_⟩
  rcases h.2 with h | ⟨g, cap, cur, h1, h2, h3⟩
  · exact .inl h
  · exact .inr ⟨g, cap, cur, h1, Nat.le_trans hb h2, h3⟩

theorem asked_any (s : ByteArray) (w : World) :
    Calls Tryz.prog 45 #[.string s] w fun e w' => Below w.heap.size w w' ∧ ∃ v, e = .returned (.tuple #[v, faultV (askErr s)]) ∧ SlI w' v (askRunes s) ∧ (askErr s ≠ 0 → v = .slice none 0 0) := by
  by_cases h : (600 : Int) < (s.size : Int)
  · refine (asked_long s w h).mono ?_
    rintro e w' ⟨rfl, hb⟩
    have he : askErr s = 1 := ask_long (by omega)
    exact ⟨hb, _, by rw [he]; rfl, .inl ⟨rfl, askRunes_err (by rw [he]; decide)⟩, fun _ => rfl⟩
  · exact asked_short s w (by omega)
theorem askRunes_le (s : ByteArray) : (askRunes s).length ≤ 300 := by
  unfold askRunes
  split
  · rename_i h
    unfold askErr at h
    split at h
    · simp at h
    · cases hr : runesOf s with
      | none => simp
      | some l =>
        rw [hr] at h
        simp only at h
        split at h
        · simp at h
        · split at h
          · simp at h
          · simp; omega
  · simp

set_option maxHeartbeats 2000000 in
theorem refClasses_any (s : ByteArray) (w : World) :
    Calls Tryz.prog 27 #[.string s] w fun e w' => Below w.heap.size w w' ∧ ∃ v, e = .returned (.tuple #[v, faultV (askErr s)]) ∧ SlI w' v ((askRunes s).map cls) := by
  have hle := askRunes_le s
  go_enter Tryz.func27, Tryz.ntmps27
  go_wp2_with fail
  refine (asked_any s _).mono ?_
  rintro e w1 ⟨hb, v, rfl, hsl, _⟩
  obtain ⟨hc, hf⟩ := bcell hb
  obtain ⟨er, m, hfv⟩ : ∃ er m, faultV (askErr s) = .agg #[.int .i64 er, .int .i64 m, .int .i64 m] := ⟨_, _, rfl⟩
  have HF : Hid (faultV (askErr s) = .agg #[.int .i64 er, .int .i64 m, .int .i64 m]) := hfv
  rw [hfv]
  clear hfv
  go_wp2_with fail
  have hsl' : SlI (w1.alloc (.cells #[.int .i64 er, .int .i64 m, .int .i64 m] 47)) v (askRunes s) := hsl.below ((Below.refl _ _).alloc (Nat.le_refl _) _)
  have HC : Hid (∀ W, SlI W v (askRunes s) → w.heap.size + 1 ≤ W.heap.size →
      Calls Tryz.prog 46 #[v] W fun e w' => ∃ v', e = .returned v' ∧ w'.ownsRow (w.heap.size + 1) 3 1 v' (askRunes s).length (((askRunes s).map cls).map (Value.int .i64)) ∧ Below W.heap.size W w') := fun W h hW =>
    (classes_any _ v W (by omega) h).mono fun e w' ⟨v', he, ho, hb'⟩ => ⟨v', he, ho.low hW, hb'⟩
  have HS : Hid (SlI (w1.alloc (.cells #[.int .i64 er, .int .i64 m, .int .i64 m] 47)) v (askRunes s)) := hsl'
  have HB : Hid (Below w.heap.size w w1) := ((Below.refl _ _).alloc (Nat.le_refl _) _).trans (hb.mono (by simp))
  have hz : w.heap.size < w1.heap.size := by have := hb.size; simp at this; omega
  clear hsl hsl' hb
  go_region_with (go_at_call 46; refine (HC.out _ ?_ ?_).mono ?_; exact HS.out; (simp; omega); rintro e w2 ⟨v', rfl, hown2, hb3⟩; obtain ⟨hc2, hf2⟩ := bcell hb3)
  all_goals
    have hB3 : Below w.heap.size w (((w2.setCell ⟨w.heap.size, 0, none⟩ (.int .i64 er)).setCell ⟨w.heap.size, 1, none⟩ (.int .i64 m)).setCell ⟨w.heap.size, 2, none⟩ (.int .i64 m)) :=
      (((((HB.out.alloc HB.out.size _).drew).trans (hb3.mono (by simp; omega))).setCell (Nat.le_refl _) _).setCell (Nat.le_refl _) _).setCell (Nat.le_refl _) _
    have hS3 : SlI (((w2.setCell ⟨w.heap.size, 0, none⟩ (.int .i64 er)).setCell ⟨w.heap.size, 1, none⟩ (.int .i64 m)).setCell ⟨w.heap.size, 2, none⟩ (.int .i64 m)) v' ((askRunes s).map cls) :=
      SlI.of_owns (ownsRow_setCell_below (ownsRow_setCell_below (ownsRow_setCell_below hown2 (by simp) _) (by simp) _) (by simp) _)
    have k0 : w2.cell? ⟨w.heap.size, 0, none⟩ = some (.int .i64 0) := (hc2 _ _ (by simp; omega)).trans ((World.cell?_alloc_lt _ _ ⟨w.heap.size, 0, none⟩ hz).trans ((hc _ _ (by simp)).trans (by simp)))
    have k1 : w2.cell? ⟨w.heap.size, 1, none⟩ = some (.int .i64 0) := (hc2 _ _ (by simp; omega)).trans ((World.cell?_alloc_lt _ _ ⟨w.heap.size, 1, none⟩ hz).trans ((hc _ _ (by simp)).trans (by simp)))
    have k2 : w2.cell? ⟨w.heap.size, 2, none⟩ = some (.int .i64 0) := (hc2 _ _ (by simp; omega)).trans ((World.cell?_alloc_lt _ _ ⟨w.heap.size, 2, none⟩ hz).trans ((hc _ _ (by simp)).trans (by simp)))
    clear hc2 hf2 hc hf
    go_wp2
    exact bodyPost_ret (v := .tuple #[v', .agg #[.int .i64 er, .int .i64 m, .int .i64 m]]) (by simp [results, Tryz.results27, go_sem, k0, k1, k2]) rfl ⟨hB3, v', by rw [HF.out], hS3⟩
end Go.Proofs.YtkbinfhclaafhaaGreatDoor
