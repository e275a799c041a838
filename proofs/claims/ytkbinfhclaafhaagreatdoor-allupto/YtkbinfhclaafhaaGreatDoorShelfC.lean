import Derived.Shelf.Unicode.CaseTo
import Derived.Test.YtkbinfhclaafhaaGreatDoorProg
namespace Go.Proofs
open Go.Shelf Tryz
theorem Tryz.qC{α:Type}{a:Option α}{b c:α}(h:a=some b)(g:b=c:=by kernel_rfl):a=some c:=h.trans (congrArg some g)
def Tryz.lays203_ren:Ren:=⟨fun|203=>255|262=>273|313=>293|274=>304|275=>305|n=>n,fun|21=>21|4=>4|3=>3|162=>333|203=>331|160=>343|46=>205|0=>0|208=>351|51=>299|206=>349|n=>n,fun|13=>12|n=>n⟩
theorem Tryz.lays203:Lays.n203 prog lays203_ren:={mixed:=by kernel_rfl,f203:=qC func255,f262:=qC func273,f274:=qC func304,f275:=qC func305,f313:=qC func293,t0:=underlying0,a0:=isAgg0,z0:=sizeOf0,v0:=zeroValue0,t3:=underlying3,a3:=isAgg3,z3:=sizeOf3,v3:=zeroValue3,t4:=underlying4,a4:=isAgg4,z4:=sizeOf4,v4:=zeroValue4,t21:=underlying21,a21:=isAgg21,z21:=sizeOf21,v21:=zeroValue21,t46:=underlying205,a46:=isAgg205,z46:=sizeOf205,v46:=zeroValue205,t51:=underlying299,a51:=isAgg299,z51:=sizeOf299,v51:=zeroValue299,t160:=underlying343,a160:=isAgg343,z160:=sizeOf343,v160:=zeroValue343,t162:=underlying333,a162:=isAgg333,z162:=sizeOf333,v162:=zeroValue333,t203:=underlying331,a203:=isAgg331,z203:=sizeOf331,v203:=zeroValue331,t206:=underlying349,a206:=isAgg349,z206:=sizeOf349,v206:=zeroValue349,t208:=underlying351,a208:=isAgg351,z208:=sizeOf351,v208:=zeroValue351,g13:=by kernel_rfl}
end Go.Proofs
