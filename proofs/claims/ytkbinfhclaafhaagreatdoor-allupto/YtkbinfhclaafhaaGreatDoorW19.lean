import Derived.Test.YtkbinfhclaafhaaGreatDoorRows
import Derived.JoinedOf
namespace Go.Proofs.YtkbinfhclaafhaaGreatDoor
set_option maxRecDepth 100000
theorem ajI:(Rows.allUptoRow.inPlace==Tryz.prog.inPlace 12)=true:=by kernel_rfl
theorem ajJ:(Rows.allUptoRow.unfollowed==Tryz.prog.unfollowed 12)=true:=by kernel_rfl
theorem ajK:(Rows.allUptoRow.recurses==Tryz.prog.recurses 12)=true:=by kernel_rfl
theorem ajL:(Rows.allUptoRow.named==Tryz.prog.varsNamed 12)=true:=by kernel_rfl
theorem ajM:Go.joinedFacts Tryz.prog 12 Tryz.f12 (Rows.OpenSpec.upto Rows.allSpec).bare Rows.allUptoRow=true:=by unfold Go.joinedFacts;rw[ajI,ajJ,ajK,ajL];kernel_rfl
end Go.Proofs.YtkbinfhclaafhaaGreatDoor
