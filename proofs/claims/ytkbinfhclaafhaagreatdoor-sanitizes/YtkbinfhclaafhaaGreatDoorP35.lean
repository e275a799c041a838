import Derived.Test.YtkbinfhclaafhaaGreatDoorRows
import Derived.JoinedOf
namespace Go.Proofs.YtkbinfhclaafhaaGreatDoor
set_option maxRecDepth 100000
theorem aqs:(Rows.sanitizesRow.inPlace==Tryz.prog.inPlace 9)=true:=by kernel_rfl
theorem aqt:(Rows.sanitizesRow.unfollowed==Tryz.prog.unfollowed 9)=true:=by kernel_rfl
theorem aqu:(Rows.sanitizesRow.recurses==Tryz.prog.recurses 9)=true:=by kernel_rfl
theorem aqv:(Rows.sanitizesRow.named==Tryz.prog.varsNamed 9)=true:=by kernel_rfl
theorem aqw:Go.joinedFacts Tryz.prog 9 Tryz.f9 Rows.sanitizesSpec Rows.sanitizesRow=true:=by
 unfold Go.joinedFacts;rw[aqs,aqt,aqu,aqv];kernel_rfl
end Go.Proofs.YtkbinfhclaafhaaGreatDoor
