import Derived.Test.YtkbinfhclaafhaaGreatDoorRows
import Derived.JoinedOf
namespace Go.Proofs.YtkbinfhclaafhaaGreatDoor
set_option maxRecDepth 100000

theorem applies_j1 : (Rows.appliesUptoRow.inPlace == Tryz.prog.inPlace 10) = true := by kernel_rfl
theorem applies_j2 : (Rows.appliesUptoRow.unfollowed == Tryz.prog.unfollowed 10) = true := by kernel_rfl
theorem applies_j3 : (Rows.appliesUptoRow.recurses == Tryz.prog.recurses 10) = true := by kernel_rfl
theorem applies_j4 : (Rows.appliesUptoRow.named == Tryz.prog.varsNamed 10) = true := by kernel_rfl
theorem applies_joined : Go.joinedFacts Tryz.prog 10 Tryz.f10 (Rows.OpenSpec.upto Rows.appliesSpec).bare Rows.appliesUptoRow = true := by
  unfold Go.joinedFacts
  rw [applies_j1, applies_j2, applies_j3, applies_j4]
  kernel_rfl
end Go.Proofs.YtkbinfhclaafhaaGreatDoor
