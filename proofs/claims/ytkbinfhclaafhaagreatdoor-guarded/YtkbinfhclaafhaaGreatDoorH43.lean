import Derived.Test.YtkbinfhclaafhaaGreatDoorRows
import Derived.JoinedOf
namespace Go.Proofs.YtkbinfhclaafhaaGreatDoor
set_option maxRecDepth 100000
theorem adX:(Rows.guardedRow.inPlace==Tryz.prog.inPlace 11)=true:=by kernel_rfl
theorem adY:(Rows.guardedRow.unfollowed==Tryz.prog.unfollowed 11)=true:=by kernel_rfl
theorem adZ:(Rows.guardedRow.recurses==Tryz.prog.recurses 11)=true:=by kernel_rfl
theorem ad1:(Rows.guardedRow.named==Tryz.prog.varsNamed 11)=true:=by kernel_rfl
theorem ad2:Go.joinedFacts Tryz.prog 11 Tryz.f11 Rows.guardedSpec Rows.guardedRow=true:=by
 unfold Go.joinedFacts;rw [adX,adY,adZ,ad1];kernel_rfl
end Go.Proofs.YtkbinfhclaafhaaGreatDoor
