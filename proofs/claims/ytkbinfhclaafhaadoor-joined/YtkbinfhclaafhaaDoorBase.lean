import Derived.Test.YtkbinfhclaafhaaDoorProg
import Derived.WalkKit
import Derived.WalkSpells
import Derived.WalkLawsBesides
import Derived.Deep.QuietTactic
import Derived.BigQuiet
import Derived.WalkSmall
namespace Go.Proofs.YtkbinfhclaafhaaDoor
open Go.RowKit

/-- The cells of a row of ints. -/
def IntsAt (w : World) (b off : Nat) (l : List Int) : Prop := ∀ i, i < l.length → w.cell? ⟨b, off + i, none⟩ = some (.int .i64 (l.getD i 0))
/-- A slice that reads as a list of ints: nil, or a row. -/
def SlI (w : World) (v : Value) (l : List Int) : Prop := (v = .slice none 0 0 ∧ l = []) ∨ ∃ b off cap, v = .slice (some ⟨b, off, none⟩) l.length cap ∧ IntsAt w b off l

theorem ret_int {k : IntKind} {a b : Int} (h : a = b) : Ending.returned (.int k a) = .returned (.int k b) := by rw [h]
theorem ret_bool {a b : Bool} (h : a = b) : Ending.returned (.bool a) = .returned (.bool b) := by rw [h]

/-- Is a number one of these? -/
def amongB (r : Int) (l : List Int) : Bool := l.contains r
theorem among_succ (l : List Int) (r : Int) (k : Nat) (h : k < l.length) (hn : amongB r (l.take k) = false) (he : (l.getD k 0 == r) = false) : amongB r (l.take (k + 1)) = false := by
  unfold amongB at hn ⊢
  rw [List.getD_eq_getElem?_getD, List.getElem?_eq_getElem h] at he
  simp only [Option.getD_some, beq_eq_false_iff_ne] at he
  rw [List.take_succ_eq_append_getElem h, List.contains_eq_mem, decide_eq_false_iff_not, List.mem_append]
  rw [List.contains_eq_mem, decide_eq_false_iff_not] at hn
  rintro (e | e)
  · exact hn e
  · exact he (List.mem_singleton.1 e).symm
theorem among_hit (l : List Int) (r : Int) (k : Nat) (h : k < l.length) (he : (l.getD k 0 == r) = true) : amongB r l = true := by
  unfold amongB
  rw [List.getD_eq_getElem?_getD, List.getElem?_eq_getElem h] at he
  simp at he
  simp
  exact he ▸ List.getElem_mem h

/-! told, numbers -/
theorem Below.chain {a b b' c : World} (h1 : Below a.heap.size a b) (h : Below b.heap.size b b') (h2 : Below b'.heap.size b' c) : Below a.heap.size a c :=
  h1.trans ((h.mono h1.size).trans (h2.mono (Nat.le_trans h1.size h.size)))
theorem bcell {W w1 : World} (hb : Below W.heap.size W w1) : (∀ b o, b < W.heap.size → w1.cell? ⟨b, o, none⟩ = W.cell? ⟨b, o, none⟩) ∧ (∀ b o, b < W.heap.size → w1.frozen? ⟨b, o, none⟩ = W.frozen? ⟨b, o, none⟩) :=
  ⟨fun b o h => hb.cell (p := ⟨b, o, none⟩) h, fun b o h => hb.frozen (p := ⟨b, o, none⟩) h⟩
theorem IntsAt.below {W w1 : World} {b off : Nat} {l : List Int} (h : IntsAt W b off l) (hb : Below W.heap.size W w1) : IntsAt w1 b off l := by
  intro i hi
  have := h i hi
  rw [← this]
  refine hb.cell ?_
  rcases Nat.lt_or_ge b W.heap.size with h' | h'
  · exact h'
  · simp [World.cell?, Array.getElem?_eq_none h'] at this
theorem SlI.below {W w1 : World} {v : Value} {l : List Int} (h : SlI W v l) (hb : Below W.heap.size W w1) : SlI w1 v l := by
  rcases h with h | ⟨b, off, cap, rfl, hc⟩
  · exact .inl h
  · exact .inr ⟨b, off, cap, rfl, hc.below hb⟩

end Go.Proofs.YtkbinfhclaafhaaDoor
