import Derived.Test.YtkbinfhclaafhaaGreatDoorProg
import Derived.WalkKit
import Derived.WalkSpells
import Derived.WalkLawsBesides
import Derived.Deep.QuietTactic
import Derived.BigQuiet
import Derived.WalkSmall
namespace Go.Proofs.YtkbinfhclaafhaaGreatDoor
open Go.RowKit

/-- The cells of a row of ints. -/
def IntsAt (w : World) (b off : Nat) (l : List Int) : Prop := ∀ i, i < l.length → w.cell? ⟨b, off + i, none⟩ = some (.int .i64 (l.getD i 0))
/-- A slice that reads as a list of ints: nil, or a row. -/
def SlI (w : World) (v : Value) (l : List Int) : Prop := (v = .slice none 0 0 ∧ l = []) ∨ ∃ b off cap, v = .slice (some ⟨b, off, none⟩) l.length cap ∧ IntsAt w b off l

theorem ret_int {k : IntKind} {a b : Int} (h : a = b) : Ending.returned (.int k a) = .returned (.int k b) := by rw [h]
theorem ret_bool {a b : Bool} (h : a = b) : Ending.returned (.bool a) = .returned (.bool b) := by rw [h]

/-- Is a number one of these? -/
def amongB (r : Int) (l : List Int) : Bool := l.contains r
theorem among_succ (l : List Int) (r : Int) (k : Nat) (h : k < l.length) (hn : amongB r (l.take k) = false) (he : (l.getD k 0 == r) = false) : amongB r (l.take (k + 1)) = false := by
  unfold amongB at hn ⊢
  rw [List.getD_eq_getElem?_getD, List.getElem?_eq_getElem h] at he
  simp only [Option.getD_some, beq_eq_false_iff_ne] at he
  rw [List.take_succ_eq_append_getElem h, List.contains_eq_mem, decide_eq_false_iff_not, List.mem_append]
  rw [List.contains_eq_mem, decide_eq_false_iff_not] at hn
  rintro (e | e)
  · exact hn e
  · exact he (List.mem_singleton.1 e).symm
theorem among_hit (l : List Int) (r : Int) (k : Nat) (h : k < l.length) (he : (l.getD k 0 == r) = true) : amongB r l = true := by
  unfold amongB
  rw [List.getD_eq_getElem?_getD, List.getElem?_eq_getElem h] at he
  simp at he
  simp
  exact he ▸ List.getElem_mem h

set_option maxHeartbeats 400000 in
theorem among_row (r : Int) (l : List Int) (b off cap n : Nat) (w : World) (hl : l.length = n) (hn : n ≤ 1000000) (hc : IntsAt w b off l) :
    Calls Tryz.prog 68 #[.int .i64 r, .slice (some ⟨b, off, none⟩) n cap] w fun e w' => e = .returned (.bool (amongB r l)) ∧ w' = w := by
  have HC : Hid (IntsAt w b off l) := hc
  have HL : Hid (l.length = n) := hl
  clear hc hl
  go_enter Tryz.func68, Tryz.ntmps68
  go_wp2
  go_loop [5] (fun i => ∃ k : Nat, k ≤ n ∧ i = .int .i64 k ∧ amongB r (l.take k) = false) (fun i => n - (intOf i).toNat)
  case atStart => exact ⟨0, Nat.zero_le _, rfl, by simp [amongB]⟩
  case round =>
    obtain ⟨k, hk, rfl, hn⟩ := hrel
    have HN : Hid (amongB r (l.take k) = false) := hn
    clear hn
    by_cases hlt : k < n
    · have hcell := HC.out k (by rw [HL.out]; exact hlt)
      obtain ⟨x, hx⟩ : ∃ x, x = l.getD k 0 := ⟨_, rfl⟩
      rw [← hx] at hcell
      have HX : Hid (x = l.getD k 0) := hx
      clear hx
      by_cases he : (x == r) = true
      · go_wp2
        go_ret
        exact ⟨ret_bool (among_hit l r k (by rw [HL.out]; exact hlt) (HX.out ▸ he)).symm, rfl⟩
      · have he : (x == r) = false := by simpa using he
        go_wp2
        go_round
        case rel => exact ⟨k + 1, by omega, by go_num, among_succ l r k (by rw [HL.out]; exact hlt) HN.out (HX.out ▸ he)⟩
        case measure => simp [intOf]; omega
    · go_wp2
      go_ret
      refine ⟨ret_bool ?_, rfl⟩
      have := HN.out
      rw [List.take_of_length_le (by rw [HL.out]; omega)] at this
      exact this.symm

theorem among_nil (r : Int) (w : World) :
    Calls Tryz.prog 68 #[.int .i64 r, .slice none 0 0] w fun e w' => e = .returned (.bool false) ∧ w' = w := by
  go_enter Tryz.func68, Tryz.ntmps68
  go_wp2
  refine wp_loop_rounds 1 ?_
  rw [rounds_succ]
  go_wp2
  go_ret
  exact ⟨rfl, rfl⟩
theorem among_any (r : Int) (l : List Int) (v : Value) (w : World) (hl : l.length ≤ 1000000) (hv : SlI w v l) :
    Calls Tryz.prog 68 #[.int .i64 r, v] w fun e w' => e = .returned (.bool (amongB r l)) ∧ w' = w := by
  rcases hv with ⟨rfl, rfl⟩ | ⟨b, off, cap, rfl, hc⟩
  · exact among_nil r w
  · exact among_row r l b off cap l.length w rfl hl hc

/-! told, numbers -/
set_option maxHeartbeats 400000 in
theorem told_same (x y z : Int) (w : World) :
    Calls Tryz.prog 47 #[.agg #[.int .i64 x, .int .i64 y, .int .i64 z], .agg #[.int .i64 x, .int .i64 y, .int .i64 z]] w fun e w' => e = .returned (.bool true) ∧ Below w.heap.size w w' := by
  go_enter Tryz.func47, Tryz.ntmps47
  go_wp2
  go_ret
  exact ⟨rfl, by repeat (first | exact Below.refl _ _ | refine Below.alloc ?_ (by simp <;> omega) _)⟩

theorem Below.chain {a b b' c : World} (h1 : Below a.heap.size a b) (h : Below b.heap.size b b') (h2 : Below b'.heap.size b' c) : Below a.heap.size a c :=
  h1.trans ((h.mono h1.size).trans (h2.mono (Nat.le_trans h1.size h.size)))
theorem bcell {W w1 : World} (hb : Below W.heap.size W w1) : (∀ b o, b < W.heap.size → w1.cell? ⟨b, o, none⟩ = W.cell? ⟨b, o, none⟩) ∧ (∀ b o, b < W.heap.size → w1.frozen? ⟨b, o, none⟩ = W.frozen? ⟨b, o, none⟩) :=
  ⟨fun b o h => hb.cell (p := ⟨b, o, none⟩) h, fun b o h => hb.frozen (p := ⟨b, o, none⟩) h⟩
theorem IntsAt.below {W w1 : World} {b off : Nat} {l : List Int} (h : IntsAt W b off l) (hb : Below W.heap.size W w1) : IntsAt w1 b off l := by
  intro i hi
  have := h i hi
  rw [← this]
  refine hb.cell ?_
  rcases Nat.lt_or_ge b W.heap.size with h' | h'
  · exact h'
  · simp [World.cell?, Array.getElem?_eq_none h'] at this
theorem SlI.below {W w1 : World} {v : Value} {l : List Int} (h : SlI W v l) (hb : Below W.heap.size W w1) : SlI w1 v l := by
  rcases h with h | ⟨b, off, cap, rfl, hc⟩
  · exact .inl h
  · exact .inr ⟨b, off, cap, rfl, hc.below hb⟩

set_option maxHeartbeats 1000000 in
theorem numbers_err (x y z : Int) (ao : Option Addr) (c : Nat) (w : World) (hx : (x != 0) = true) :
    Calls Tryz.prog 28 #[.slice none 0 0, .agg #[.int .i64 x, .int .i64 y, .int .i64 z], .slice ao 0 c, .agg #[.int .i64 x, .int .i64 y, .int .i64 z]] w fun e w' => e = .returned (.bool true) ∧ Below w.heap.size w w' := by
  go_enter Tryz.func28, Tryz.ntmps28
  go_wp2_with fail
  refine (told_same x y z _).mono ?_
  rintro e w1 ⟨rfl, hb⟩
  obtain ⟨hc, hf⟩ := bcell hb
  go_wp2
  refine wp_loop_rounds 1 ?_
  rw [rounds_succ]
  go_wp2
  go_ret
  exact ⟨rfl, (((Below.refl _ _).alloc (Nat.le_refl _) _).alloc (by simp) _).trans (hb.mono (by simp; omega))⟩
set_option maxHeartbeats 1000000 in
theorem numbers_zero (y z : Int) (ao ao' : Option Addr) (c c' : Nat) (w : World) :
    Calls Tryz.prog 28 #[.slice ao' 0 c', .agg #[.int .i64 0, .int .i64 y, .int .i64 z], .slice ao 0 c, .agg #[.int .i64 0, .int .i64 y, .int .i64 z]] w fun e w' => e = .returned (.bool true) ∧ Below w.heap.size w w' := by
  go_enter Tryz.func28, Tryz.ntmps28
  go_wp2_with fail
  refine (told_same 0 y z _).mono ?_
  rintro e w1 ⟨rfl, hb⟩
  obtain ⟨hc, hf⟩ := bcell hb
  go_wp2
  refine wp_loop_rounds 1 ?_
  rw [rounds_succ]
  go_wp2
  go_ret
  exact ⟨rfl, (((Below.refl _ _).alloc (Nat.le_refl _) _).alloc (by simp) _).trans (hb.mono (by simp; omega))⟩
set_option maxHeartbeats 2000000 in
theorem numbers_row (y z : Int) (l : List Int) (n b off c b' off' c' : Nat) (w : World) (hl : l.length = n) (hn : n ≤ 1000000) (ha : IntsAt w b off l) (hb : IntsAt w b' off' l) :
    Calls Tryz.prog 28 #[.slice (some ⟨b, off, none⟩) n c, .agg #[.int .i64 0, .int .i64 y, .int .i64 z], .slice (some ⟨b', off', none⟩) n c', .agg #[.int .i64 0, .int .i64 y, .int .i64 z]] w fun e w' => e = .returned (.bool true) ∧ Below w.heap.size w w' := by
  have HA : Hid (IntsAt w b off l) := ha
  have HB : Hid (IntsAt w b' off' l) := hb
  have HL : Hid (l.length = n) := hl
  clear ha hb hl
  go_enter Tryz.func28, Tryz.ntmps28
  go_wp2_with fail
  refine (told_same 0 y z _).mono ?_
  rintro e w1 ⟨rfl, hb⟩
  have hB : Below w.heap.size w w1 := (((Below.refl _ _).alloc (Nat.le_refl _) _).alloc (by simp) _).trans (hb.mono (by simp; omega))
  have HA1 : Hid (IntsAt w1 b off l) := HA.out.below hB
  have HB1 : Hid (IntsAt w1 b' off' l) := HB.out.below hB
  have HBe : Hid (Below w.heap.size w w1) := hB
  obtain ⟨hc, hf⟩ := bcell hb
  clear hB
  go_wp2
  clear hc hf hb
  go_loopw [10] (fun i wr => ∃ k m : Nat, k ≤ n ∧ i = .int .i64 k ∧ wr = w1.drewN m) (fun i _ => n - (intOf i).toNat)
  case atStart => exact ⟨0, 0, Nat.zero_le _, rfl, rfl⟩
  case round =>
    obtain ⟨k, m, hk, rfl, rfl⟩ := hrel
    by_cases hlt : k < n
    · have h1 := HA1.out k (by rw [HL.out]; exact hlt)
      have h2 := HB1.out k (by rw [HL.out]; exact hlt)
      generalize l.getD k 0 = x at h1 h2
      have hlt' : (k : Int) < (n : Int) := by omega
      go_wp2_with fail
      go_quiet (fail)
      go_wp2
      go_roundw
      case rel => exact ⟨k + 1, _, by omega, by go_num, rfl⟩
      case measure => simp [intOf]; omega
    · go_wp2
      go_ret
      exact ⟨rfl, below_drewN HBe.out _⟩
theorem numbers_any (x y z : Int) (l : List Int) (va vb : Value) (w : World) (hl : l.length ≤ 1000000) (ha : SlI w va l) (hb : SlI w vb l) (hx : x ≠ 0 → va = .slice none 0 0) :
    Calls Tryz.prog 28 #[va, .agg #[.int .i64 x, .int .i64 y, .int .i64 z], vb, .agg #[.int .i64 x, .int .i64 y, .int .i64 z]] w fun e w' => e = .returned (.bool true) ∧ Below w.heap.size w w' := by
  by_cases h0 : x = 0
  · subst h0
    rcases ha with ⟨rfl, rfl⟩ | ⟨b, off, c, rfl, ha⟩
    · rcases hb with ⟨rfl, _⟩ | ⟨b', off', c', rfl, _⟩
      · exact numbers_zero y z _ _ _ _ w
      · exact numbers_zero y z _ _ _ _ w
    · rcases hb with ⟨rfl, rfl⟩ | ⟨b', off', c', rfl, hb⟩
      · exact numbers_zero y z _ _ _ _ w
      · exact numbers_row y z l l.length b off c b' off' c' w rfl hl ha hb
  · have := hx h0
    subst this
    rcases ha with ⟨_, rfl⟩ | ⟨b, off, c, h, _⟩
    · rcases hb with ⟨rfl, _⟩ | ⟨b', off', c', rfl, _⟩
      · exact numbers_err x y z _ _ w (by simpa using h0)
      · exact numbers_err x y z _ _ w (by simpa using h0)
    · simp at h
end Go.Proofs.YtkbinfhclaafhaaGreatDoor
