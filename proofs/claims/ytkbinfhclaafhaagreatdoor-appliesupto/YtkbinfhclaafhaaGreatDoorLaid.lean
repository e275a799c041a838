import Derived.Test.YtkbinfhclaafhaaGreatDoorClasses
import Derived.Test.YtkbinfhclaafhaaGreatDoorCards
import Derived.Test.YtkbinfhclaafhaaGreatDoorTie
import Derived.ProofKit
import Derived.OpenShut
import Derived.LaidMore
import Derived.LaidLaws
import Derived.LaidHandle
import Derived.LaidSub
import Derived.Lib.LaidU8T
import Derived.Lib.SmallJoins
import Derived.Deep.Slices
import Derived.Deep.Strs
import Derived.Stop.Joined
import Derived.SizedLaws
namespace Go.Proofs.YtkbinfhclaafhaaGreatDoor
open Go.ChangeShapes Go.WideShapes Go.ChangeAt Go.RowKit Go.Deep Go.Lib
set_option maxRecDepth 100000

theorem own : ownKnob Tryz.prog.godebug = none := by kernel_rfl
theorem gLong : Tryz.prog.globalNamed "bidiguard/guard.ErrLong" = some 0 := by kernel_rfl
theorem gText : Tryz.prog.globalNamed "bidiguard/guard.ErrText" = some 1 := by kernel_rfl
theorem gCode : Tryz.prog.globalNamed "bidiguard/guard.ErrCode" = some 2 := by kernel_rfl
theorem tLong : (Tryz.prog.globals[0]?).map (·.type) = some 53 := by kernel_rfl
theorem tText : (Tryz.prog.globals[1]?).map (·.type) = some 53 := by kernel_rfl
theorem tCode : (Tryz.prog.globals[2]?).map (·.type) = some 53 := by kernel_rfl
theorem cellsES : Tryz.prog.cellsOf 372 = 1 := by kernel_rfl
theorem cellsStr : Tryz.prog.cellsOf 9 = 1 := by kernel_rfl
theorem star : "*" ++ "errors.errorString" = "*errors.errorString" := by decide
theorem rowES (u : TypeId) (h : Tryz.prog.typeName? 3 u = some "*errors.errorString") : u = 354 :=
  typeName_ptr_named (nm := "errors.errorString") (by rw [star]; kernel_rfl) (by kernel_rfl) (by decide) u (by rw [star]; exact h)

def errs3 : List (String × DataW Unit) := [("bidiguard/guard.ErrLong", Rows.laid_bidiguard_guard_ErrLong), ("bidiguard/guard.ErrText", Rows.laid_bidiguard_guard_ErrText), ("bidiguard/guard.ErrCode", Rows.laid_bidiguard_guard_ErrCode)]
/-- What the three errors are: three pointers, each another. -/
theorem of_errs {W : World} (h : laidMet Tryz.prog errs3 W) :
    ∃ (a0 a1 a2 : Addr) (c0 c1 c2 : Array Value) (t0 t1 t2 : TypeId),
      W.cell? ⟨0, 0, none⟩ = some (.iface 354 (.pointer (some a0))) ∧ W.cell? ⟨1, 0, none⟩ = some (.iface 354 (.pointer (some a1))) ∧ W.cell? ⟨2, 0, none⟩ = some (.iface 354 (.pointer (some a2))) ∧
      a0 ≠ a1 ∧ a1 ≠ a2 ∧ a0 ≠ a2 ∧
      W.heap[a0.block]? = some (.cells c0 t0 (0, 0)) ∧ W.heap[a1.block]? = some (.cells c1 t1 (0, 0)) ∧ W.heap[a2.block]? = some (.cells c2 t2 (0, 0)) := by
  obtain ⟨ps, ⟨g0, t0, cs0, f0, p0, q0, hg0, ht0, hv0, hd0, ⟨g1, t1, cs1, f1, p1, q1, hg1, ht1, hv1, hd1, ⟨g2, t2, cs2, f2, p2, q2, hg2, ht2, hv2, hd2, hq2, e2⟩, e1⟩, e0⟩, hnd, hrows⟩ := h
  obtain rfl := Option.some.inj (gLong.symm.trans hg0)
  obtain rfl := Option.some.inj (gText.symm.trans hg1)
  obtain rfl := Option.some.inj (gCode.symm.trans hg2)
  obtain rfl := Option.some.inj (tLong.symm.trans ht0)
  obtain rfl := Option.some.inj (tText.symm.trans ht1)
  obtain rfl := Option.some.inj (tCode.symm.trans ht2)
  have hq2' : q2 = [] := hq2
  subst hq2'
  subst e2
  subst e1
  subst e0
  obtain ⟨l0⟩ := cs0
  obtain ⟨l1⟩ := cs1
  obtain ⟨l2⟩ := cs2
  have ok0 : ∀ u v, l0 = [.iface u v] → Value.okWide Tryz.prog W .any 0 u v := fun u v e => by
    subst e
    exact (hrows 0 0 (by simp [MemPlace.row])).2 u v (by simpa using World.var?_cell hg0 hv0 0)
  have ok1 : ∀ u v, l1 = [.iface u v] → Value.okWide Tryz.prog W .any 0 u v := fun u v e => by
    subst e
    exact (hrows 1 0 (by simp [MemPlace.row])).2 u v (by simpa using World.var?_cell hg1 hv1 0)
  have ok2 : ∀ u v, l2 = [.iface u v] → Value.okWide Tryz.prog W .any 0 u v := fun u v e => by
    subst e
    exact (hrows 2 0 (by simp [MemPlace.row])).2 u v (by simpa using World.var?_cell hg2 hv2 0)
  obtain ⟨a0, s0, rfl, hc0, hs0, hz0, rfl⟩ := errorString_of_trod Tryz.underlying53 rowES Tryz.underlying354 Tryz.underlying372 rfl rfl Tryz.underlying9 cellsES cellsStr hd0 ok0
  obtain ⟨a1, s1, rfl, hc1, hs1, hz1, rfl⟩ := errorString_of_trod Tryz.underlying53 rowES Tryz.underlying354 Tryz.underlying372 rfl rfl Tryz.underlying9 cellsES cellsStr hd1 ok1
  obtain ⟨a2, s2, rfl, hc2, hs2, hz2, rfl⟩ := errorString_of_trod Tryz.underlying53 rowES Tryz.underlying354 Tryz.underlying372 rfl rfl Tryz.underlying9 cellsES cellsStr hd2 ok2
  obtain ⟨c0, t0, hb0⟩ := (hrows a0.block a0.off (by simp [MemPlace.row])).1
  obtain ⟨c1, t1, hb1⟩ := (hrows a1.block a1.off (by simp [MemPlace.row])).1
  obtain ⟨c2, t2, hb2⟩ := (hrows a2.block a2.off (by simp [MemPlace.row])).1
  refine ⟨a0, a1, a2, c0, c1, c2, t0, t1, t2, by simpa using World.var?_cell hg0 hv0 0, by simpa using World.var?_cell hg1 hv1 0, by simpa using World.var?_cell hg2 hv2 0, ?_, ?_, ?_, hb0, hb1, hb2⟩
  · rintro rfl; simp [MemPlace.row] at hnd
  · rintro rfl; simp [MemPlace.row] at hnd
  · rintro rfl; simp [MemPlace.row] at hnd

/-! The table of spans -/
theorem gSpans : Tryz.prog.globalNamed "bidiguard/bidi.spans" = some 4 := by kernel_rfl
theorem tSpans : (Tryz.prog.globals[4]?).map (·.type) = some 176 := by kernel_rfl
theorem cellsSpan : Tryz.prog.cellsOf 175 = 3 := by kernel_rfl
theorem cellsI32 : Tryz.prog.cellsOf 21 = 1 := by kernel_rfl
theorem cellsCls : Tryz.prog.cellsOf 108 = 1 := by kernel_rfl
theorem cellsSpans : Tryz.prog.cellsOf 176 = 108 := by kernel_rfl
def spanD {H : Type} (x : Int × Int × Int) : DataW H := .agg [.lit (.int .i32 x.1), .lit (.int .i32 x.2.1), .lit (.int .i64 x.2.2)]
theorem spansData : Rows.laid_bidiguard_bidi_spans (H := Unit) = .agg (spansL.map spanD) := by kernel_rfl
def spanC (x : Int × Int × Int) : List Value := [.int .i32 x.1, .int .i32 x.2.1, .int .i64 x.2.2]
theorem spansCells : (spansL.flatMap spanC).toArray = spansV := by kernel_rfl

theorem span_cells {H : Type} {enc : TypeId × Value → H} {w : World} {base : Nat} {sp : Nat → Bool} {held : Bool} {fuel : Nat} {cs : List Value} {x : Int × Int × Int} {p : List MemPlace}
    (h : DataW.trod enc Tryz.prog w base sp held fuel 175 cs = some (spanD x, p)) : cs = spanC x := by
  obtain ⟨y0, y1, y2, n, hx, hl, h0, h1, h2⟩ := trod_struct3 Tryz.underlying175 h
  rw [cellsSpan] at hl
  match cs, hl with
  | [c0, c1, c2], _ =>
    obtain ⟨a, e0, rfl, _⟩ := DataW.trod_int Tryz.underlying21 (by simpa [cellsI32] using h0)
    obtain ⟨b, e1, rfl, _⟩ := DataW.trod_int Tryz.underlying21 (by simpa [cellsI32] using h1)
    obtain ⟨c, e2, rfl, _⟩ := DataW.trod_int Tryz.underlying108 (by simpa [cellsCls] using h2)
    simp [spanD] at hx e0 e1 e2
    obtain ⟨⟨r0, r1, r2⟩, _⟩ := hx
    subst e0 e1 e2
    simp [spanC, r0, r1, r2]

theorem flat_take (f : Int × Int × Int → List Value) (hf : ∀ x, (f x).length = 3) (L : List (Int × Int × Int)) (cs : List Value) (h : ∀ i (hi : i < L.length), (cs.drop (i * 3)).take 3 = f L[i]) :
    ∀ i, i ≤ L.length → cs.take (i * 3) = (L.take i).flatMap f
  | 0, _ => by simp
  | i + 1, hi => by
    have ih := flat_take f hf L cs h i (by omega)
    rw [show (i + 1) * 3 = i * 3 + 3 by omega, List.take_add, ih, h i (by omega), List.take_succ_eq_append_getElem (by omega), List.flatMap_append]
    simp
theorem spans_of_reads {W : World} (h : VarReads Tryz.prog W "bidiguard/bidi.spans" Rows.laid_bidiguard_bidi_spans) : ∃ t fr, W.heap[4]? = some (.cells spansV t fr) := by
  obtain ⟨g, t, cs, fuel, p, hg, hty, hvar, hd⟩ := h
  obtain rfl := Option.some.inj (gSpans.symm.trans hg)
  obtain rfl := Option.some.inj (tSpans.symm.trans hty)
  rw [spansData] at hd
  obtain ⟨xs, m, _, hx, hlen, hxl, hel⟩ := DataW.trod_array Tryz.underlying176 hd
  rw [cellsSpans] at hlen
  rw [cellsSpan] at hel
  have hxm : xs.map (·.1) = spansL.map spanD := by
    have := congrArg Prod.fst hx
    simpa using this.symm
  have hsl : spansL.length = 36 := rfl
  have hcs : cs.toList = spansL.flatMap spanC := by
    have := flat_take spanC (fun _ => rfl) spansL cs.toList (fun i hi => by
      have hi36 : i < 36 := by omega
      have he := hel i hi36
      rw [List.getElem?_eq_getElem (by omega)] at he
      have h1 : xs[i].1 = spanD spansL[i] := by
        have := congrArg (fun l : List (DataW Unit) => l[i]?) hxm
        simp only [List.getElem?_map, List.getElem?_eq_getElem (show i < xs.length by omega), List.getElem?_eq_getElem hi, Option.map_some, Option.some.injEq] at this
        exact this
      exact span_cells (p := xs[i].2) (by rw [he]; exact congrArg some (Prod.ext h1 rfl))) 36 (by omega)
    rw [List.take_of_length_le (by omega), List.take_of_length_le (by omega)] at this
    exact this
  have hca : cs = spansV := by
    rw [← spansCells, ← hcs]
  subst hca
  unfold World.var? at hvar
  rw [gSpans] at hvar
  simp only [Option.bind_some] at hvar
  split at hvar
  · rename_i c t' fr hh
    cases hvar
    exact ⟨t', fr, hh⟩
  · cases hvar

/-! All that the list gives -/
def laid7 : List (String × DataW Unit) := [("bidiguard/parts.lineComment", Rows.laid_bidiguard_parts_lineComment), ("bidiguard/parts.blockBegins", Rows.laid_bidiguard_parts_blockBegins), ("bidiguard/parts.blockEnds", Rows.laid_bidiguard_parts_blockEnds), ("math/bits.deBruijn32tab", Rows.laid_math_bits_deBruijn32tab), ("math/bits.deBruijn64tab", Rows.laid_math_bits_deBruijn64tab), ("internal/strconv.uint64pow10", Rows.laid_internal_strconv_uint64pow10), ("unicode/utf8.acceptRanges", Rows.laid_unicode_utf8_acceptRanges), ("bidiguard/bidi.bracketPairs", Rows.laid_bidiguard_bidi_bracketPairs), ("bidiguard/bidi.spans", Rows.laid_bidiguard_bidi_spans), ("bidiguard/guard.ErrLong", Rows.laid_bidiguard_guard_ErrLong), ("bidiguard/guard.ErrText", Rows.laid_bidiguard_guard_ErrText), ("bidiguard/guard.ErrCode", Rows.laid_bidiguard_guard_ErrCode), ("unicode.CaseRanges", Rows.laid_unicode_CaseRanges), ("unicode/utf8.first", Rows.laid_unicode_utf8_first)]
theorem errs3_of7 : (laid7.filter fun x => x.1 == "bidiguard/guard.ErrLong" || x.1 == "bidiguard/guard.ErrText" || x.1 == "bidiguard/guard.ErrCode") = errs3 := by kernel_rfl
theorem firstD : Rows.laid_unicode_utf8_first = firstData := by kernel_rfl
theorem acceptD : Rows.laid_unicode_utf8_acceptRanges (H := Unit) = acceptData := by kernel_rfl
theorem etG : Tryz.prog.globalNamed "errors.errorType" = some 3 := by kernel_rfl
theorem rtT : (Tryz.prog.cutTypes.find? (·.1 == "internal/reflectlite.rtype")).map (·.2) = some 223 := by kernel_rfl
theorem oneRow : ((List.range 383).filter fun t => Tryz.prog.rowNamed t [101, 114, 114, 111, 114]) = [53] := by kernel_rfl
theorem nTypes : Tryz.prog.types.size = 383 := by kernel_rfl

theorem env_of_laid {W : World} (h : laidMetH Tryz.prog Rows.classesRow.laid W) : ∃ aL aT aC, Env W aL aT aC := by
  have h' : laidMet Tryz.prog laid7 W ∧ handlesMet Tryz.prog [("errors.errorType", Rows.laid_errors_errorType)] W := h
  obtain ⟨h7, hh⟩ := h'
  have hE := h7.filter fun x => x.1 == "bidiguard/guard.ErrLong" || x.1 == "bidiguard/guard.ErrText" || x.1 == "bidiguard/guard.ErrCode"
  rw [errs3_of7] at hE
  obtain ⟨a0, a1, a2, c0, c1, c2, t0, t1, t2, hc0, hc1, hc2, h01, h12, h02, hb0, hb1, hb2⟩ := of_errs hE
  have htab : Lib.Utf8Tabs (Tryz.lays196_ren.g 3) (Tryz.lays196_ren.g 4) W :=
    utf8Tabs_of_readsT (U8Types.of196 Tryz.lays196) ⟨by kernel_rfl, by kernel_rfl, by kernel_rfl, by kernel_rfl, by kernel_rfl, by kernel_rfl, by kernel_rfl⟩
      (firstD ▸ Lib.laidMet.reads h7 (.tail _ (.tail _ (.tail _ (.tail _ (.tail _ (.tail _ (.tail _ (.tail _ (.tail _ (.tail _ (.tail _ (.tail _ (.tail _ (.head _)))))))))))))))
      (acceptD ▸ Lib.laidMet.reads h7 (.tail _ (.tail _ (.tail _ (.tail _ (.tail _ (.tail _ (.head _))))))))
  have hsp := spans_of_reads (Lib.laidMet.reads h7 (.tail _ (.tail _ (.tail _ (.tail _ (.tail _ (.tail _ (.tail _ (.tail _ (.head _))))))))))
  have het : W.cell? ⟨3, 0, none⟩ = some (.iface 223 (.agg #[.pointer (some ⟨16, 53, none⟩)])) := by
    obtain ⟨name, u, ty, e1, e2, e3, e4, e5⟩ := hh _ (List.mem_singleton.2 rfl)
    have en : name = [101, 114, 114, 111, 114] := (Option.some.inj e1).symm
    subst en
    obtain rfl := Option.some.inj (rtT.symm.trans e2)
    have hm : ty ∈ (List.range 383).filter fun t => Tryz.prog.rowNamed t [101, 114, 114, 111, 114] := List.mem_filter.2 ⟨List.mem_range.2 (by rw [← nTypes]; exact e3), e4⟩
    rw [oneRow] at hm
    obtain rfl := List.mem_singleton.1 hm
    have hty : typeHandle Tryz.prog 53 = .pointer (some ⟨16, 53, none⟩) := by kernel_rfl
    rw [hty] at e5
    simpa using World.var?_cell etG e5 0
  exact ⟨a0, a1, a2, hc0, hc1, hc2, het, htab, hsp, h01, h12, h02, ⟨c0, t0, hb0⟩, ⟨c1, t1, hb1⟩, ⟨c2, t2, hb2⟩⟩
end Go.Proofs.YtkbinfhclaafhaaGreatDoor
