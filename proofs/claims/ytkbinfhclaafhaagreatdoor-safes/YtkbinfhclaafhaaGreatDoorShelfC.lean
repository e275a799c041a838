import Derived.Shelf.Unicode.CaseTo
import Derived.Test.YtkbinfhclaafhaaGreatDoorProg
namespace Go.Proofs
open Go.Shelf
def Tryz.lays203_ren : Go.Shelf.Ren := ⟨fun | 203 => 255 | 262 => 273 | 313 => 293 | 274 => 304 | 275 => 305 | n => n, fun | 21 => 21 | 4 => 4 | 3 => 3 | 162 => 333 | 203 => 331 | 160 => 343 | 46 => 205 | 0 => 0 | 208 => 351 | 51 => 299 | 206 => 349 | n => n, fun | 13 => 12 | n => n⟩
theorem Tryz.lays203 : Go.Proofs.Lays.n203 Tryz.prog Tryz.lays203_ren := {
  mixed := by kernel_rfl
  f203 := Tryz.func255.trans (congrArg some (by kernel_rfl))
  f262 := Tryz.func273.trans (congrArg some (by kernel_rfl))
  f274 := Tryz.func304.trans (congrArg some (by kernel_rfl))
  f275 := Tryz.func305.trans (congrArg some (by kernel_rfl))
  f313 := Tryz.func293.trans (congrArg some (by kernel_rfl))
  t0 := Tryz.underlying0
  a0 := Tryz.isAgg0
  z0 := Tryz.sizeOf0
  v0 := Tryz.zeroValue0
  t3 := Tryz.underlying3
  a3 := Tryz.isAgg3
  z3 := Tryz.sizeOf3
  v3 := Tryz.zeroValue3
  t4 := Tryz.underlying4
  a4 := Tryz.isAgg4
  z4 := Tryz.sizeOf4
  v4 := Tryz.zeroValue4
  t21 := Tryz.underlying21
  a21 := Tryz.isAgg21
  z21 := Tryz.sizeOf21
  v21 := Tryz.zeroValue21
  t46 := Tryz.underlying205
  a46 := Tryz.isAgg205
  z46 := Tryz.sizeOf205
  v46 := Tryz.zeroValue205
  t51 := Tryz.underlying299
  a51 := Tryz.isAgg299
  z51 := Tryz.sizeOf299
  v51 := Tryz.zeroValue299
  t160 := Tryz.underlying343
  a160 := Tryz.isAgg343
  z160 := Tryz.sizeOf343
  v160 := Tryz.zeroValue343
  t162 := Tryz.underlying333
  a162 := Tryz.isAgg333
  z162 := Tryz.sizeOf333
  v162 := Tryz.zeroValue333
  t203 := Tryz.underlying331
  a203 := Tryz.isAgg331
  z203 := Tryz.sizeOf331
  v203 := Tryz.zeroValue331
  t206 := Tryz.underlying349
  a206 := Tryz.isAgg349
  z206 := Tryz.sizeOf349
  v206 := Tryz.zeroValue349
  t208 := Tryz.underlying351
  a208 := Tryz.isAgg351
  z208 := Tryz.sizeOf351
  v208 := Tryz.zeroValue351
  g13 := by kernel_rfl }
end Go.Proofs
