import Derived.Test.YtkbinfhclaafhaaGreatDoorLaidQ
import Derived.Lib.LaidU8
import Derived.Test.YtkbinfhclaafhaaGreatDoorPtRead
namespace Go.Proofs.YtkbinfhclaafhaaGreatDoor
open Go.ChangeShapes Go.WideShapes Go.ChangeAt Go.RowKit Go.Deep Go.Lib
set_option maxRecDepth 100000

/-! The signs of package parts. -/
theorem cellsSg : Tryz.prog.cellsOf 246 = 2 := by kernel_rfl
theorem cellsU8 : Tryz.prog.cellsOf 5 = 1 := by kernel_rfl
theorem sign_of_reads {W : World} {name : String} {gv : Nat} {a b : Int} (hn : Tryz.prog.globalNamed name = some gv) (ht : (Tryz.prog.globals[gv]?).map (·.type) = some 246) (h : VarReads Tryz.prog W name (.agg [.lit (.int .u8 a), .lit (.int .u8 b)])) : ∃ t f, W.heap[gv]? = some (.cells #[.int .u8 a, .int .u8 b] t f) := by
  obtain ⟨g, t, cs, fuel, p, hg, hty, hvar, hd⟩ := h
  obtain rfl := Option.some.inj (hn.symm.trans hg)
  obtain rfl := Option.some.inj (ht.symm.trans hty)
  obtain ⟨y0, y1, n, hx, hl, h0, h1⟩ := trod_struct2 Tryz.underlying246 hd
  rw [cellsSg] at hl
  have hcs : cs = #[.int .u8 a, .int .u8 b] := by
    obtain ⟨l⟩ := cs
    match l, hl with
    | [c0, c1], _ =>
      obtain ⟨a', e0, rfl, _⟩ := DataW.trod_int Tryz.underlying5 (by simpa [cellsU8] using h0)
      obtain ⟨b', e1, rfl, _⟩ := DataW.trod_int Tryz.underlying5 (by simpa [cellsU8] using h1)
      simp at hx e0 e1
      obtain ⟨⟨r0, r1⟩, _⟩ := hx
      subst e0 e1
      simp [r0, r1]
  subst hcs
  unfold World.var? at hvar
  rw [hn] at hvar
  simp only [Option.bind_some] at hvar
  split at hvar
  · rename_i c t' fr hh
    cases hvar
    exact ⟨t', fr, hh⟩
  · cases hvar
theorem penv_of_laid {W : World} (h : laidMetH Tryz.prog Rows.partsRow.laid W) : PEnv W := by
  have h' : laidMet Tryz.prog laid7 W ∧ handlesMet Tryz.prog [("errors.errorType", Rows.laid_errors_errorType)] W := h
  exact ⟨sign_of_reads (by kernel_rfl) (by kernel_rfl) (Lib.laidMet.reads h'.1 (.head _)), sign_of_reads (by kernel_rfl) (by kernel_rfl) (Lib.laidMet.reads h'.1 (.tail _ (.head _))), sign_of_reads (by kernel_rfl) (by kernel_rfl) (Lib.laidMet.reads h'.1 (.tail _ (.tail _ (.head _))))⟩
end Go.Proofs.YtkbinfhclaafhaaGreatDoor
