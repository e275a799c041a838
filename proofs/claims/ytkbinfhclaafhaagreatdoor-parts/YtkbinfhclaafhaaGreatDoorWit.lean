import Derived.Test.YtkbinfhclaafhaaGreatDoorScript
import Derived.Test.YtkbinfhclaafhaaGreatDoorRows
import Derived.Test.YtkbinfhclaafhaaGreatDoorShelfC
import Derived.Lib.LaidCaseMet
import Derived.PinnedBridge
import Derived.LaidHandle
import Derived.Lib.LaidIn
import Derived.Lib.LaidU8T
import Derived.LaidLaws
import Derived.Deep.DeepLaidRun
namespace Go.Proofs.YtkbinfhclaafhaaGreatDoor
open Go.ChangeShapes Go.WideShapes Go.ChangeAt Go.RowKit Go.Deep Go.Lib
set_option maxRecDepth 100000

/-! A world in which the package-level variables hold what the rows list. -/
def layFirst (w : World) : World := { w with heap := w.heap.modify 5 fun
  | .cells _ t fr => .cells ((Lib.firstTab.map fun z => Value.int .u8 z).toArray) t fr
  | o => o }
def layCase (w : World) : World := { w with heap := (w.heap.push (.cells Lib.caseCells5 351 (0, 0))).modify 12 fun
  | .cells _ t fr => .cells #[.slice (some ⟨w.heap.size, 0, none⟩) 336 336] t fr
  | o => o }
theorem LaidVars_split {P : Program} {w : World} : ∀ {l l' : List (String × DataW Unit)} {ps : List MemPlace}, DataW.LaidVars P w (l ++ l') ps → ∃ p q, DataW.LaidVars P w l p ∧ DataW.LaidVars P w l' q ∧ ps = p ++ q
  | [], _, ps, h => ⟨[], ps, rfl, h, rfl⟩
  | (n, d) :: r, l', ps, h => by
    obtain ⟨g, t, cs, fuel, p, q, h1, h2, h3, h4, h5, rfl⟩ := h
    obtain ⟨p', q', h6, h7, rfl⟩ := LaidVars_split h5
    exact ⟨_, q', ⟨g, t, cs, fuel, p, p', h1, h2, h3, h4, h6, rfl⟩, h7, by simp [List.append_assoc]⟩
theorem laidMet_swap {P : Program} {w : World} {a b c : List (String × DataW Unit)} (h : laidMet P (a ++ b ++ c) w) : laidMet P (a ++ c ++ b) w := by
  obtain ⟨ps, hV, hn, hc⟩ := h
  obtain ⟨pab, pc, h1, h2, rfl⟩ := LaidVars_split hV
  obtain ⟨pa, pb, h3, h4, rfl⟩ := LaidVars_split h1
  have hp : (pa ++ pb ++ pc).Perm (pa ++ pc ++ pb) := by
    rw [List.append_assoc, List.append_assoc]
    exact List.Perm.append_left pa List.perm_append_comm
  exact ⟨pa ++ pc ++ pb, LaidVars_append (LaidVars_append h3 h2) h4, hp.nodup_iff.1 hn, fun b off hm => hc b off (hp.mem_iff.2 hm)⟩
def othL : List (String × DataW Unit) := Rows.classesRow.laid.filter fun x => x.2.handleName?.isNone
theorem othL_eq : othL = othL.take 12 ++ [("unicode.CaseRanges", Lib.caseData)] ++ othL.drop 13 := by
  rw [← Pinned.caseRanges_eq]
  rfl
theorem wit_case (os : Os) (args : Array Value) : laidMet Tryz.prog (othL.take 12 ++ othL.drop 13 ++ [("unicode.CaseRanges", Lib.caseData)]) ((layCase (layFirst (World.doorLaid Tryz.prog 200 os))).forCall (fun _ _ => 0) ⟨#[], args, []⟩).memory :=
  laidMet_with_case (ρ := Tryz.lays203_ren) { Tryz.lays203 with } Tryz.lays203.t206 ⟨by kernel_rfl, by kernel_rfl, by kernel_rfl, by kernel_rfl, by kernel_rfl, by kernel_rfl⟩
    8 (by kernel_rfl) (by kernel_rfl) (by kernel_rfl) (layFirst (World.doorLaid Tryz.prog 200 default)).heap.size 351 (of_decide_eq_true (by kernel_rfl)) (by kernel_rfl) (by kernel_rfl) (by kernel_rfl)
theorem wit_met (os : Os) (args : Array Value) : laidMetH Tryz.prog Rows.classesRow.laid ((layCase (layFirst (World.doorLaid Tryz.prog 200 os))).forCall (fun _ _ => 0) ⟨#[], args, []⟩).memory :=
  laidMetH_of_parts3 (fuel := 8) (by
    have := laidMet_swap (wit_case os args)
    rw [← othL_eq] at this
    exact this) (by kernel_rfl) (by kernel_rfl)
end Go.Proofs.YtkbinfhclaafhaaGreatDoor
