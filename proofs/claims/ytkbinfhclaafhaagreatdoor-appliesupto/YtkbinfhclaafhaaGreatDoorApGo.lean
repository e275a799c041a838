import Derived.Test.YtkbinfhclaafhaaGreatDoorApLies
import Derived.Test.YtkbinfhclaafhaaGreatDoorShelfB
namespace Go.Proofs.YtkbinfhclaafhaaGreatDoor
open Go.RowKit Go.Shelf

/-! The program's Apply. -/
set_option maxRecDepth 100000 in
theorem Tryz.liesB : liesAt Tryz.prog Tryz.prog.depth 64 (2 / Tryz.prog.cellsOf 64) 0 64 1 = true := by kernel_rfl
set_option maxRecDepth 100000 in
theorem Tryz.bx : Builder.Extra Tryz.prog Tryz.laysB_ren where
  sizeBuilder := by kernel_rfl
  liesBuilder := Tryz.liesB
  t5 := Tryz.underlying5
  a5 := Tryz.isAgg5
  z5 := Tryz.sizeOf5
  v5 := Tryz.zeroValue5
  infoByte := by kernel_rfl
  cellsByte := by kernel_rfl
  sizeByte := by kernel_rfl
  neB5 := by decide
def BAt (w : World) (B b : Nat) (l : List UInt8) : Prop := Lib.IsBuilderF 64 5 B b (Lib.byteCells l) w
theorem write_any (B b : Nat) (l : List UInt8) (s : ByteArray) (w : World) (h : BAt w B b l) (hlen : l.length + s.size ≤ 140737488355328) (hBw : B ≤ w.heap.size) :
    Calls Tryz.prog 41 #[.pointer (some ⟨b, 0, none⟩), .string s] w fun e w' => e = .returned (.tuple #[.int .i64 s.size, .nilIface]) ∧ BAt w' B b (l ++ s.data.toList) ∧ Below B w w' ∧ Lib.OthersKept 5 (some b) w w' := by
  have := Any.Builder_WriteString_k Tryz.lays166 Tryz.bx B b (Lib.byteCells l) s w h (by rw [Lib.byteCells_length]; exact hlen) hBw
  refine Calls.mono this ?_
  rintro e w' ⟨rfl, h1, h2, h3⟩
  refine ⟨rfl, ?_, h2, h3⟩
  have e : Lib.byteCells (l ++ s.data.toList) = Lib.byteCells l ++ Lib.strCells s := by simp [Lib.byteCells, Lib.strCells]
  unfold BAt
  rw [e]
  exact .inr h1
theorem string_any (B b : Nat) (l : List UInt8) (w : World) (h : BAt w B b l) (hBw : B ≤ w.heap.size) :
    Calls Tryz.prog 42 #[.pointer (some ⟨b, 0, none⟩)] w fun e w' => e = .returned (.string ⟨l.toArray⟩) ∧ Below B w w' := by
  have := Any.Builder_String_any_k Tryz.lays169 Tryz.bx B b l w h hBw
  refine Calls.mono this ?_
  rintro e w' ⟨rfl, _, h2, _⟩
  exact ⟨rfl, h2⟩
end Go.Proofs.YtkbinfhclaafhaaGreatDoor
