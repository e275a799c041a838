import Derived.Test.YtkbinfhclaafhaaGreatDoorT01
namespace Go.Proofs.YtkbinfhclaafhaaGreatDoor
open Go.ChangeShapes Go.WideShapes Go.ChangeAt Go.RowKit Go.Deep Go.Lib
set_option maxRecDepth 100000
def laidT : List (String × DataW Unit) := [("unicode/utf8.acceptRanges", Rows.laid_unicode_utf8_acceptRanges), ("bidiguard/bidi.bracketPairs", Rows.laid_bidiguard_bidi_bracketPairs), ("bidiguard/bidi.spans", Rows.laid_bidiguard_bidi_spans), ("bidiguard/guard.ErrLong", Rows.laid_bidiguard_guard_ErrLong), ("bidiguard/guard.ErrText", Rows.laid_bidiguard_guard_ErrText), ("bidiguard/guard.ErrCode", Rows.laid_bidiguard_guard_ErrCode), ("unicode/utf8.first", Rows.laid_unicode_utf8_first)]
theorem errs3_ofT : (laidT.filter fun x => x.1 == "bidiguard/guard.ErrLong" || x.1 == "bidiguard/guard.ErrText" || x.1 == "bidiguard/guard.ErrCode") = errs3 := by kernel_rfl
theorem envT_of_laid {W : World} (h : laidMetH Tryz.prog Rows.turnedRow.laid W) : (∃ aL aT aC, Env W aL aT aC) ∧ Br W := by
 have h' : laidMet Tryz.prog laidT W ∧ handlesMet Tryz.prog [("errors.errorType", Rows.laid_errors_errorType)] W := h
 obtain ⟨h7, hh⟩ := h'
 have hE := h7.filter fun x => x.1 == "bidiguard/guard.ErrLong" || x.1 == "bidiguard/guard.ErrText" || x.1 == "bidiguard/guard.ErrCode"
 rw [errs3_ofT] at hE
 obtain ⟨a0, a1, a2, c0, c1, c2, t0, t1, t2, hc0, hc1, hc2, h01, h12, h02, hb0, hb1, hb2⟩ := of_errs hE
 have htab : Lib.Utf8Tabs (Tryz.lays196_ren.g 3) (Tryz.lays196_ren.g 4) W :=
  utf8Tabs_of_readsT (U8Types.of196 Tryz.lays196) ⟨by kernel_rfl, by kernel_rfl, by kernel_rfl, by kernel_rfl, by kernel_rfl, by kernel_rfl, by kernel_rfl⟩
   (firstD ▸ Lib.laidMet.reads h7 (.tail _ (.tail _ (.tail _ (.tail _ (.tail _ (.tail _ (.head _))))))))
   (acceptD ▸ Lib.laidMet.reads h7 (.head _))
 have hsp := spans_of_reads (Lib.laidMet.reads h7 (.tail _ (.tail _ (.head _))))
 have hbr := br_of_reads (Lib.laidMet.reads h7 (.tail _ (.head _)))
 have het : W.cell? ⟨3, 0, none⟩ = some (.iface 223 (.agg #[.pointer (some ⟨16, 53, none⟩)])) := by
  obtain ⟨name, u, ty, e1, e2, e3, e4, e5⟩ := hh _ (List.mem_singleton.2 rfl)
  have en : name = [101, 114, 114, 111, 114] := (Option.some.inj e1).symm
  subst en
  obtain rfl := Option.some.inj (rtT.symm.trans e2)
  have hm : ty ∈ (List.range 383).filter fun t => Tryz.prog.rowNamed t [101, 114, 114, 111, 114] := List.mem_filter.2 ⟨List.mem_range.2 (by rw [← nTypes]; exact e3), e4⟩
  rw [oneRow] at hm
  obtain rfl := List.mem_singleton.1 hm
  have hty : typeHandle Tryz.prog 53 = .pointer (some ⟨16, 53, none⟩) := by kernel_rfl
  rw [hty] at e5
  simpa using World.var?_cell etG e5 0
 exact ⟨⟨a0, a1, a2, hc0, hc1, hc2, het, htab, hsp, h01, h12, h02, ⟨c0, t0, hb0⟩, ⟨c1, t1, hb1⟩, ⟨c2, t2, hb2⟩⟩, hbr⟩
theorem laidT_of7 : (laid7.filter fun x => x.1 == "unicode/utf8.acceptRanges" || x.1 == "bidiguard/bidi.bracketPairs" || x.1 == "bidiguard/bidi.spans" || x.1 == "bidiguard/guard.ErrLong" || x.1 == "bidiguard/guard.ErrText" || x.1 == "bidiguard/guard.ErrCode" || x.1 == "unicode/utf8.first") = laidT := by kernel_rfl
theorem witT_met (os : Os) (args : Array Value) : laidMetH Tryz.prog Rows.turnedRow.laid ((layCase (layFirst (World.doorLaid Tryz.prog 200 os))).forCall (fun _ _ => 0) ⟨#[], args, []⟩).memory := by
 have h : laidMet Tryz.prog laid7 ((layCase (layFirst (World.doorLaid Tryz.prog 200 os))).forCall (fun _ _ => 0) ⟨#[], args, []⟩).memory ∧ handlesMet Tryz.prog [("errors.errorType", Rows.laid_errors_errorType)] ((layCase (layFirst (World.doorLaid Tryz.prog 200 os))).forCall (fun _ _ => 0) ⟨#[], args, []⟩).memory := wit_met os args
 have h2 := h.1.filter fun x => x.1 == "unicode/utf8.acceptRanges" || x.1 == "bidiguard/bidi.bracketPairs" || x.1 == "bidiguard/bidi.spans" || x.1 == "bidiguard/guard.ErrLong" || x.1 == "bidiguard/guard.ErrText" || x.1 == "bidiguard/guard.ErrCode" || x.1 == "unicode/utf8.first"
 rw [laidT_of7] at h2
 exact ⟨h2, h.2⟩
end Go.Proofs.YtkbinfhclaafhaaGreatDoor
