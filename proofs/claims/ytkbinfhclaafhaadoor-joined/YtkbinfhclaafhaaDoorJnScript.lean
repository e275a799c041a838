import Derived.Test.YtkbinfhclaafhaaDoorJnRow
import Derived.Test.YtkbinfhclaafhaaDoorCards
import Derived.Test.YtkbinfhclaafhaaDoorTie
import Derived.ProofKit
import Derived.OpenShut
import Derived.LaidMore
import Derived.LaidLaws
import Derived.LaidSub
import Derived.Lib.SmallJoins
import Derived.Lib.LaidU8
import Derived.Deep.Slices
import Derived.Deep.Strs
import Derived.Stop.Joined
import Derived.SizedLaws
namespace Go.Proofs.YtkbinfhclaafhaaDoor
open Go.ChangeShapes Go.WideShapes Go.ChangeAt Go.RowKit Go.Deep Go.Lib
set_option maxRecDepth 100000

/-! What Joined's row lists; a script opened. -/
theorem own : ownKnob Tryd.prog.godebug = none := by kernel_rfl
theorem cellsStr : Tryd.prog.cellsOf 9 = 1 := by kernel_rfl
theorem cellsSg : Tryd.prog.cellsOf 46 = 2 := by kernel_rfl
theorem cellsU8 : Tryd.prog.cellsOf 5 = 1 := by kernel_rfl
theorem sign_of_reads {W : World} {name : String} {gv : Nat} {a b : Int} (hn : Tryd.prog.globalNamed name = some gv) (ht : (Tryd.prog.globals[gv]?).map (·.type) = some 46) (h : VarReads Tryd.prog W name (.agg [.lit (.int .u8 a), .lit (.int .u8 b)])) : ∃ t f, W.heap[gv]? = some (.cells #[.int .u8 a, .int .u8 b] t f) := by
  obtain ⟨g, t, cs, fuel, p, hg, hty, hvar, hd⟩ := h
  obtain rfl := Option.some.inj (hn.symm.trans hg)
  obtain rfl := Option.some.inj (ht.symm.trans hty)
  obtain ⟨y0, y1, n, hx, hl, h0, h1⟩ := trod_struct2 Tryd.underlying46 hd
  rw [cellsSg] at hl
  have hcs : cs = #[.int .u8 a, .int .u8 b] := by
    obtain ⟨l⟩ := cs
    match l, hl with
    | [c0, c1], _ =>
      obtain ⟨a', e0, rfl, _⟩ := DataW.trod_int Tryd.underlying5 (by simpa [cellsU8] using h0)
      obtain ⟨b', e1, rfl, _⟩ := DataW.trod_int Tryd.underlying5 (by simpa [cellsU8] using h1)
      simp at hx e0 e1
      obtain ⟨⟨r0, r1⟩, _⟩ := hx
      subst e0 e1
      simp [r0, r1]
  subst hcs
  unfold World.var? at hvar
  rw [hn] at hvar
  simp only [Option.bind_some] at hvar
  split at hvar
  · rename_i c t' fr hh
    cases hvar
    exact ⟨t', fr, hh⟩
  · cases hvar
theorem penv_of_joined {W : World} (h : laidMetH Tryd.prog Rows.joinedRow.laid W) : PEnv W := by
  rw [MakeChecks.laidMetH_plain _ _ _ (by kernel_rfl)] at h
  have h' : laidMet Tryd.prog [("bidiguard/parts.lineComment", Rows.laid_bidiguard_parts_lineComment), ("bidiguard/parts.blockBegins", Rows.laid_bidiguard_parts_blockBegins), ("bidiguard/parts.blockEnds", Rows.laid_bidiguard_parts_blockEnds)] W := h
  exact ⟨sign_of_reads (by kernel_rfl) (by kernel_rfl) (Lib.laidMet.reads h' (.head _)), sign_of_reads (by kernel_rfl) (by kernel_rfl) (Lib.laidMet.reads h' (.tail _ (.head _))), sign_of_reads (by kernel_rfl) (by kernel_rfl) (Lib.laidMet.reads h' (.tail _ (.tail _ (.head _))))⟩
theorem cellsOp : Tryd.prog.cellsOf 26 = 4 := by kernel_rfl
theorem cellsInt : Tryd.prog.cellsOf 3 = 1 := by kernel_rfl
theorem cellsEdits : Tryd.prog.cellsOf 24 = 1 := by kernel_rfl
theorem bytesOp : Tryd.prog.bytesOf 26 = 56 := by kernel_rfl
theorem laidOut : laidOutB Tryd.prog = true := by kernel_rfl

/-- A step opened. -/
theorem op_cells {H : Type} {enc : TypeId × Value → H} {w : World} {base : Nat} {sp : Nat → Bool} {held : Bool} {fuel : Nat} {cs : List Value} {x : DataW H × List MemPlace}
    (h : DataW.trod enc Tryd.prog w base sp held fuel 26 cs = some x) : ∃ k a s ao n c, cs = [.int .i64 k, .int .i64 a, .string s, .slice ao n c] ∧ s.size ≤ maxLen := by
  obtain ⟨y0, y1, y2, y3, n, hx, hl, h0, h1, h2, h3⟩ := Joins.trod_struct4 Tryd.underlying26 h
  rw [cellsOp] at hl
  match cs, hl with
  | [c0, c1, c2, c3], _ =>
    obtain ⟨a, e0, _, _⟩ := DataW.trod_int Tryd.underlying3 (by simpa [cellsInt] using h0)
    obtain ⟨b, e1, _, _⟩ := DataW.trod_int Tryd.underlying3 (by simpa [cellsInt] using h1)
    obtain ⟨s, e2, _, hs⟩ := DataW.trod_string Tryd.underlying9 (by simpa [cellsStr] using h2)
    obtain ⟨ao, l, c, e3⟩ := Joins.slice_form Tryd.underlying24 (by simpa [cellsEdits] using h3)
    simp at e0 e1 e2 e3
    subst e0 e1 e2 e3
    exact ⟨a, b, s, ao, l, c, rfl, hs⟩

/-- A script opened: nil, or a row of steps. -/
theorem open_script {H : Type} {enc : TypeId × Value → H} {W : World} {fuel : Nat} {cs : List Value} {x : DataW H × List MemPlace}
    (h : DataW.trod enc Tryd.prog W 0 (fun _ => true) true fuel 23 cs = some x) :
    (∃ ao cap, cs = [.slice ao 0 cap]) ∨ ∃ b off len cap, ∃ ops : List OpD, cs = [.slice (some ⟨b, off, none⟩) len cap] ∧ ops.length = len ∧ OpsAt W b off ops ∧ (∀ o ∈ ops, o.s.size ≤ 9223372036854775807) ∧
      ∃ elems spare ps, x = (.slice elems spare, ps) ∧ elems.length = len := by
  rcases open_slice Tryd.underlying23 h with ⟨rfl, _⟩ | ⟨a, len, cap, m, n, D, Pl, rfl, _, hlc, _, hm, rfl, hel⟩
  · exact .inl ⟨_, _, rfl⟩
  · by_cases h0 : len = 0
    · subst h0; exact .inl ⟨_, _, rfl⟩
    right
    have hm' : m = cap := by simpa using hm
    subst hm'
    rw [cellsOp] at hel
    obtain ⟨b, off, spot⟩ := a
    have hone : ∀ i, i < len → ∃ o : OpD, W.cell? ((⟨b, off, spot⟩ : Addr).add (i * 4)) = some (.int .i64 o.k) ∧ W.cell? ((⟨b, off, spot⟩ : Addr).add (i * 4 + 1)) = some (.int .i64 o.a) ∧ W.cell? ((⟨b, off, spot⟩ : Addr).add (i * 4 + 2)) = some (.string o.s) ∧ W.cell? ((⟨b, off, spot⟩ : Addr).add (i * 4 + 3)) = some o.e ∧ (∃ ao n c, o.e = .slice ao n c) ∧ o.s.size ≤ 9223372036854775807 := by
      intro i hi
      obtain ⟨cs', hcs, ht⟩ := hel i (by omega)
      obtain ⟨k, a, s, ao, n', c, rfl, hs⟩ := op_cells ht
      obtain ⟨_, _, hc⟩ := World.cells?_some hcs
      refine ⟨⟨k, a, s, .slice ao n' c⟩, ?_, ?_, ?_, ?_, ⟨_, _, _, rfl⟩, by unfold maxLen at hs; omega⟩
      · have := hc 0 (by omega); rw [add_add] at this; simpa using this
      · have := hc 1 (by omega); rw [add_add] at this; simpa using this
      · have := hc 2 (by omega); rw [add_add] at this; simpa using this
      · have := hc 3 (by omega); rw [add_add] at this; simpa using this
    have hspot : spot = none := by
      obtain ⟨o, h1, _⟩ := hone 0 (by omega)
      simpa [Addr.add] using World.cell?_spot h1
    subst hspot
    obtain ⟨ops, hlen, hops⟩ : ∃ ops : List OpD, ops.length = len ∧ ∀ i (hi : i < ops.length), W.cell? ⟨b, off + i * 4, none⟩ = some (.int .i64 ops[i].k) ∧ W.cell? ⟨b, off + i * 4 + 1, none⟩ = some (.int .i64 ops[i].a) ∧ W.cell? ⟨b, off + i * 4 + 2, none⟩ = some (.string ops[i].s) ∧ W.cell? ⟨b, off + i * 4 + 3, none⟩ = some ops[i].e ∧ (∃ ao n c, ops[i].e = .slice ao n c) ∧ ops[i].s.size ≤ 9223372036854775807 := by
      have hall : ∀ k, k ≤ len → ∃ ops : List OpD, ops.length = k ∧ ∀ i (hi : i < ops.length), W.cell? ⟨b, off + i * 4, none⟩ = some (.int .i64 ops[i].k) ∧ W.cell? ⟨b, off + i * 4 + 1, none⟩ = some (.int .i64 ops[i].a) ∧ W.cell? ⟨b, off + i * 4 + 2, none⟩ = some (.string ops[i].s) ∧ W.cell? ⟨b, off + i * 4 + 3, none⟩ = some ops[i].e ∧ (∃ ao n c, ops[i].e = .slice ao n c) ∧ ops[i].s.size ≤ 9223372036854775807 := by
        intro k
        induction k with
        | zero => intro _; exact ⟨[], rfl, fun i hi => absurd hi (by simp)⟩
        | succ k ih =>
          intro hk
          obtain ⟨ops, hl, ho⟩ := ih (by omega)
          obtain ⟨o, h1, h2, h3, h4, h5, h6⟩ := hone k (by omega)
          refine ⟨ops ++ [o], by simp [hl], fun i hi => ?_⟩
          by_cases hik : i < ops.length
          · rw [List.getElem_append_left hik]; exact ho i hik
          · have hik' : i = k := by simp at hi; omega
            subst hik'
            have e : (ops ++ [o])[i]'hi = o := by
              rw [List.getElem_append_right (by omega)]; simp [hl]
            rw [e]
            rw [add_plain] at h1 h2 h3 h4
            exact ⟨h1, by rw [Nat.add_assoc]; exact h2, by rw [Nat.add_assoc]; exact h3, by rw [Nat.add_assoc]; exact h4, h5, h6⟩
      exact hall len (Nat.le_refl _)
    refine ⟨b, off, len, m, ops, rfl, hlen, fun i hi => ?_, fun o ho => ?_, _, _, _, rfl, by simp⟩
    · obtain ⟨h1, h2, h3, h4, h5, _⟩ := hops i hi
      exact ⟨h1, h2, h3, h4, h5⟩
    · obtain ⟨i, hi, rfl⟩ := List.mem_iff_getElem.1 ho
      exact (hops i hi).2.2.2.2.2
end Go.Proofs.YtkbinfhclaafhaaDoor
