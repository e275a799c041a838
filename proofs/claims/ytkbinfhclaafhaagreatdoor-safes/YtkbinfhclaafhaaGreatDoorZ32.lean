import Derived.Test.YtkbinfhclaafhaaGreatDoorRows
import Derived.JoinedOf
namespace Go.Proofs.YtkbinfhclaafhaaGreatDoor
set_option maxRecDepth 100000
theorem alQ:(Rows.safesRow.inPlace==Tryz.prog.inPlace 8)=true:=by kernel_rfl
theorem alR:(Rows.safesRow.unfollowed==Tryz.prog.unfollowed 8)=true:=by kernel_rfl
theorem alS:(Rows.safesRow.recurses==Tryz.prog.recurses 8)=true:=by kernel_rfl
theorem alT:(Rows.safesRow.named==Tryz.prog.varsNamed 8)=true:=by kernel_rfl
theorem alU:Go.joinedFacts Tryz.prog 8 Tryz.f8 Rows.safesSpec Rows.safesRow=true:=by
 unfold Go.joinedFacts;rw [alQ,alR,alS,alT];kernel_rfl
end Go.Proofs.YtkbinfhclaafhaaGreatDoor
