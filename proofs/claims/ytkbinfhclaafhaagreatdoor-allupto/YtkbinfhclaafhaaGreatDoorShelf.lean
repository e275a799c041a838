import Derived.Shelf.Utf8.RuneCount
import Derived.Shelf.Strings.Search1
import Derived.Shelf.Strings.Search2
import Derived.Shelf.Strings.Search3
import Derived.Shelf.Unicode.ValidAny
import Derived.Test.YtkbinfhclaafhaaGreatDoorProg
namespace Go.Proofs
open Go.Shelf Tryz
theorem Tryz.q{α:Type}{a:Option α}{b c:α}(h:a=some b)(g:b=c:=by kernel_rfl):a=some c:=h.trans (congrArg some g)
def Tryz.lays195_ren:Ren:=⟨fun|195=>83|n=>n,fun|9=>9|3=>3|0=>0|4=>4|n=>n,fun|n=>n⟩
theorem Tryz.lays195:Lays.n195 prog lays195_ren:={mixed:=by kernel_rfl,f195:=q func83,t0:=underlying0,a0:=isAgg0,z0:=sizeOf0,v0:=zeroValue0,t3:=underlying3,a3:=isAgg3,z3:=sizeOf3,v3:=zeroValue3,t4:=underlying4,a4:=isAgg4,z4:=sizeOf4,v4:=zeroValue4,t9:=underlying9,a9:=isAgg9,z9:=sizeOf9,v9:=zeroValue9}
def Tryz.lays144_ren:Ren:=⟨fun|144=>82|143=>139|219=>195|217=>230|225=>231|224=>232|267=>233|266=>261|314=>262|n=>n,fun|9=>9|4=>4|3=>3|5=>5|46=>205|146=>300|51=>299|n=>n,fun|1=>10|n=>n⟩
theorem Tryz.lays144:Lays.n144 prog lays144_ren:={mixed:=by kernel_rfl,f143:=q func139,f144:=q func82,f217:=q func230,f219:=q func195,f224:=q func232,f225:=q func231,f266:=q func261,f267:=q func233,f314:=q func262,t3:=underlying3,a3:=isAgg3,z3:=sizeOf3,v3:=zeroValue3,t4:=underlying4,a4:=isAgg4,z4:=sizeOf4,v4:=zeroValue4,t5:=underlying5,a5:=isAgg5,z5:=sizeOf5,v5:=zeroValue5,t9:=underlying9,a9:=isAgg9,z9:=sizeOf9,v9:=zeroValue9,t46:=underlying205,a46:=isAgg205,z46:=sizeOf205,v46:=zeroValue205,t51:=underlying299,a51:=isAgg299,z51:=sizeOf299,v51:=zeroValue299,t146:=underlying300,a146:=isAgg300,z146:=sizeOf300,v146:=zeroValue300,g1:=by kernel_rfl}
def Tryz.lays196_ren:Ren:=⟨fun|196=>81|259=>138|n=>n,fun|9=>9|4=>4|3=>3|5=>5|12=>12|119=>201|0=>0|46=>205|139=>204|138=>203|53=>255|n=>n,fun|3=>5|4=>6|n=>n⟩
theorem Tryz.lays196:Lays.n196 prog lays196_ren:={mixed:=by kernel_rfl,f196:=q func81,f259:=q func138,t0:=underlying0,a0:=isAgg0,z0:=sizeOf0,v0:=zeroValue0,t3:=underlying3,a3:=isAgg3,z3:=sizeOf3,v3:=zeroValue3,t4:=underlying4,a4:=isAgg4,z4:=sizeOf4,v4:=zeroValue4,t5:=underlying5,a5:=isAgg5,z5:=sizeOf5,v5:=zeroValue5,t9:=underlying9,a9:=isAgg9,z9:=sizeOf9,v9:=zeroValue9,t12:=underlying12,a12:=isAgg12,z12:=sizeOf12,v12:=zeroValue12,t46:=underlying205,a46:=isAgg205,z46:=sizeOf205,v46:=zeroValue205,t53:=underlying255,a53:=isAgg255,z53:=sizeOf255,v53:=zeroValue255,t119:=underlying201,a119:=isAgg201,z119:=sizeOf201,t138:=underlying203,a138:=isAgg203,z138:=sizeOf203,v138:=zeroValue203,t139:=underlying204,a139:=isAgg204,z139:=sizeOf204,v139:=zeroValue204,g3:=by kernel_rfl,g4:=by kernel_rfl}
end Go.Proofs
