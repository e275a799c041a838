import Derived.Test.YtkbinfhclaafhaaGreatDoorApGo
namespace Go.Proofs.YtkbinfhclaafhaaGreatDoor
open Go.RowKit Go.Shelf

theorem BAt.below {w w' : World} {B b : Nat} {l : List UInt8} (h : BAt w B b l) (hb : Below w.heap.size w w') : BAt w' B b l := by
  have key : ∀ p, Lib.BuilderAtF 64 5 B b p (Lib.byteCells l) w → Lib.BuilderAtF 64 5 B b p (Lib.byteCells l) w' := by
    intro p h
    have hlt := h.lt
    obtain ⟨hB, v, hv, hown, hne⟩ := h
    exact ⟨hB, v, (hb.block b hlt).trans hv, hown.kept (row := none) ⟨hb.os, hb.tape, hb.output, hb.size, fun k hk _ => hb.block k hk⟩ (Classical.em _), hne⟩
  exact h.elim (fun x => .inl (key _ x)) (fun x => .inr (key _ x))
theorem bat_new (w : World) : BAt (w.alloc (.cells #[.pointer none, .slice none 0 0] 64)) w.heap.size w.heap.size [] :=
  .inl ⟨Nat.le_refl _, .slice none 0 0, by show (w.heap.push _)[w.heap.size]? = _; simp, Go.World.ownsRowF_nil _ _ _ _, by simp [Value.ownBlock]⟩
theorem ed_kept {w w' : World} {b k : Nat} {a c : Int} {n : ByteArray} (h : w.heap[k]? = some (.cells #[.int .i64 a, .int .i64 c, .string n] 66 (0, 0))) (hk : k ≠ b) (ho : Lib.OthersKept 5 (some b) w w') : w'.heap[k]? = some (.cells #[.int .i64 a, .int .i64 c, .string n] 66 (0, 0)) :=
  ho k _ h (fun e => hk (Option.some.inj e)) (fun c fz e => by simp at e)
theorem ed_cells {w : World} {k : Nat} {a c : Int} {n : ByteArray} (h : w.heap[k]? = some (.cells #[.int .i64 a, .int .i64 c, .string n] 66 (0, 0))) : w.cell? ⟨k, 0, none⟩ = some (.int .i64 a) ∧ w.cell? ⟨k, 1, none⟩ = some (.int .i64 c) ∧ w.cell? ⟨k, 2, none⟩ = some (.string n) :=
  ⟨by rw [Lib.cell_of_heap h]; rfl, by rw [Lib.cell_of_heap h]; rfl, by rw [Lib.cell_of_heap h]; rfl⟩
theorem app_data (a b : ByteArray) : (a ++ b).data.toList = a.data.toList ++ b.data.toList := by simp
end Go.Proofs.YtkbinfhclaafhaaGreatDoor
