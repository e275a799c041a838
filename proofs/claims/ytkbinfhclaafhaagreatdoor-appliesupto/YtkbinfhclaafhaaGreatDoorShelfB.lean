import Derived.Shelf.Strings.BuilderK
import Derived.Test.YtkbinfhclaafhaaGreatDoorProg
namespace Go.Proofs
open Go.Shelf

/-! The layings of strings.Builder's WriteString and String, by hand: the laying command leaves the first out. -/
def Tryz.laysB_ren : Go.Shelf.Ren := ⟨fun | 166 => 41 | 169 => 42 | 240 => 65 | 276 => 111 | n => n, fun | 70 => 61 | 72 => 64 | 37 => 62 | 127 => 107 | 75 => 53 | 80 => 70 | 164 => 149 | n => n, fun | n => n⟩
theorem Tryz.lays166 : Go.Proofs.Lays.n166 Tryz.prog Tryz.laysB_ren := {
  mixed := by kernel_rfl
  f166 := Tryz.func41.trans (congrArg some (by kernel_rfl))
  f240 := Tryz.func65.trans (congrArg some (by kernel_rfl))
  f276 := Tryz.func111.trans (congrArg some (by kernel_rfl))
  t0 := Tryz.underlying0, a0 := Tryz.isAgg0, z0 := Tryz.sizeOf0, v0 := Tryz.zeroValue0
  t3 := Tryz.underlying3, a3 := Tryz.isAgg3, z3 := Tryz.sizeOf3, v3 := Tryz.zeroValue3
  t4 := Tryz.underlying4, a4 := Tryz.isAgg4, z4 := Tryz.sizeOf4, v4 := Tryz.zeroValue4
  t9 := Tryz.underlying9, a9 := Tryz.isAgg9, z9 := Tryz.sizeOf9, v9 := Tryz.zeroValue9
  t20 := Tryz.underlying20, a20 := Tryz.isAgg20, z20 := Tryz.sizeOf20, v20 := Tryz.zeroValue20
  t37 := Tryz.underlying62, a37 := Tryz.isAgg62, z37 := Tryz.sizeOf62, v37 := Tryz.zeroValue62
  t70 := Tryz.underlying61, a70 := Tryz.isAgg61, z70 := Tryz.sizeOf61, v70 := Tryz.zeroValue61
  t72 := Tryz.underlying64, a72 := Tryz.isAgg64, z72 := Tryz.sizeOf64, v72 := Tryz.zeroValue64
  t75 := Tryz.underlying53, a75 := Tryz.isAgg53, z75 := Tryz.sizeOf53, v75 := Tryz.zeroValue53
  t164 := Tryz.underlying149, a164 := Tryz.isAgg149, z164 := Tryz.sizeOf149, v164 := Tryz.zeroValue149 }
theorem Tryz.lays169 : Go.Proofs.Lays.n169 Tryz.prog Tryz.laysB_ren := {
  mixed := by kernel_rfl
  f169 := Tryz.func42.trans (congrArg some (by kernel_rfl))
  t0 := Tryz.underlying0, a0 := Tryz.isAgg0, z0 := Tryz.sizeOf0, v0 := Tryz.zeroValue0
  t3 := Tryz.underlying3, a3 := Tryz.isAgg3, z3 := Tryz.sizeOf3, v3 := Tryz.zeroValue3
  t9 := Tryz.underlying9, a9 := Tryz.isAgg9, z9 := Tryz.sizeOf9, v9 := Tryz.zeroValue9
  t37 := Tryz.underlying62, a37 := Tryz.isAgg62, z37 := Tryz.sizeOf62, v37 := Tryz.zeroValue62
  t70 := Tryz.underlying61, a70 := Tryz.isAgg61, z70 := Tryz.sizeOf61, v70 := Tryz.zeroValue61
  t72 := Tryz.underlying64, a72 := Tryz.isAgg64, z72 := Tryz.sizeOf64, v72 := Tryz.zeroValue64
  t127 := Tryz.underlying107, a127 := Tryz.isAgg107, z127 := Tryz.sizeOf107, v127 := Tryz.zeroValue107 }
end Go.Proofs
