import Derived.Test.YtkbinfhclaafhaaGreatDoorRows
import Derived.JoinedOf
namespace Go.Proofs.YtkbinfhclaafhaaGreatDoor
set_option maxRecDepth 100000
theorem orders_j1 : (Rows.ordersRow.inPlace == Tryz.prog.inPlace 5) = true := by kernel_rfl
theorem orders_j2 : (Rows.ordersRow.unfollowed == Tryz.prog.unfollowed 5) = true := by kernel_rfl
theorem orders_j3 : (Rows.ordersRow.recurses == Tryz.prog.recurses 5) = true := by kernel_rfl
theorem orders_j4 : (Rows.ordersRow.named == Tryz.prog.varsNamed 5) = true := by kernel_rfl
theorem orders_joined : Go.joinedFacts Tryz.prog 5 Tryz.f5 Rows.ordersSpec Rows.ordersRow = true := by
 unfold Go.joinedFacts
 rw [orders_j1, orders_j2, orders_j3, orders_j4]
 kernel_rfl
end Go.Proofs.YtkbinfhclaafhaaGreatDoor
