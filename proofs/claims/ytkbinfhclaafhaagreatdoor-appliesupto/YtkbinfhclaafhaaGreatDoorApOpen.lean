import Derived.Test.YtkbinfhclaafhaaGreatDoorApPlay
import Derived.Test.YtkbinfhclaafhaaGreatDoorScript
import Derived.Test.YtkbinfhclaafhaaGreatDoorRows
namespace Go.Proofs.YtkbinfhclaafhaaGreatDoor
open Go.ChangeShapes Go.WideShapes Go.ChangeAt Go.RowKit Go.Deep Go.Lib
set_option maxRecDepth 100000

theorem bulkAll_app {H : Type} (a b : List (DataW H)) : Rows.uptoBulkAll (a ++ b) = Rows.uptoBulkAll a + Rows.uptoBulkAll b := by
  induction a with
  | nil => simp [Rows.uptoBulkAll]
  | cons x a ih => simp [Rows.uptoBulkAll, ih]; omega
theorem bulkAll_mem {H : Type} {l : List (DataW H)} {d : DataW H} (h : d ∈ l) : Rows.uptoBulk d ≤ Rows.uptoBulkAll l := by
  induction l with
  | nil => cases h
  | cons x l ih =>
    simp only [Rows.uptoBulkAll]
    rcases List.mem_cons.1 h with rfl | h
    · omega
    · have := ih h; omega
theorem cellsEdit : Tryz.prog.cellsOf 88 = 3 := by kernel_rfl
/-- An edit opened. -/
theorem edit_cells {H : Type} {enc : TypeId × Value → H} {w : World} {base : Nat} {sp : Nat → Bool} {held : Bool} {fuel : Nat} {cs : List Value} {x : DataW H × List MemPlace}
    (h : DataW.trod enc Tryz.prog w base sp held fuel 88 cs = some x) : ∃ e : Ed, cs = [.int .i64 e.a, .int .i64 e.c, .string e.n] ∧ e.n.size + 1 ≤ Rows.uptoBulk x.1 ∧ e.a ≤ 9223372036854775807 := by
  obtain ⟨y0, y1, y2, n, hx, hl, h0, h1, h2⟩ := trod_struct3 Tryz.underlying88 h
  rw [cellsEdit] at hl
  match cs, hl with
  | [c0, c1, c2], _ =>
    obtain ⟨a, e0, _, hwf⟩ := DataW.trod_int Tryz.underlying3 (by simpa [cellsInt] using h0)
    obtain ⟨b, e1, _, _⟩ := DataW.trod_int Tryz.underlying3 (by simpa [cellsInt] using h1)
    obtain ⟨s, e2, hy2, _⟩ := DataW.trod_string Tryz.underlying9 (by simpa [cellsStr] using h2)
    simp at e0 e1 e2
    subst e0 e1 e2
    refine ⟨⟨a, b, s⟩, rfl, ?_, ?_⟩
    · rw [hx, hy2]
      simp only [Rows.uptoBulk, Rows.uptoBulkAll]
      have : s.data.toList.length = s.size := rfl
      show s.size + 1 ≤ _
      omega
    · simp [Lit.wf, IntKind.min, IntKind.max, IntKind.signed, IntKind.bits] at hwf
      exact hwf.2
/-- A list of edits opened. -/
theorem open_edits {H : Type} {enc : TypeId × Value → H} {W : World} {fuel : Nat} {v : Value} {x : DataW H × List MemPlace}
    (h : DataW.trod enc Tryz.prog W 0 (fun _ => true) true fuel 27 [v] = some x) (hb : Rows.uptoBulk x.1 ≤ 1048576) :
    (∃ ao cap, v = .slice ao 0 cap) ∨ ∃ b off m cap, ∃ es : List Ed, v = .slice (some ⟨b, off, none⟩) m cap ∧ es.length = m ∧ 0 < m ∧ m ≤ 1048576 ∧ EdsAt W b off es ∧ sumN es ≤ 1048576 ∧ ∀ e ∈ es, e.a ≤ 9223372036854775807 := by
  rcases open_slice Tryz.underlying27 h with ⟨hv, _⟩ | ⟨a, len, cap, m, n, D, Pl, hv, _, hlc, _, hm, rfl, hel⟩
  · exact .inl ⟨_, _, by simpa using hv⟩
  · have hv' : v = .slice (some a) len cap := by simpa using hv
    subst hv'
    by_cases h0 : len = 0
    · subst h0; exact .inl ⟨_, _, rfl⟩
    right
    have hm' : m = cap := by simpa using hm
    subst hm'
    rw [cellsEdit] at hel
    obtain ⟨b, off, spot⟩ := a
    have hone : ∀ i, i < len → ∃ e : Ed, W.cell? ((⟨b, off, spot⟩ : Addr).add (i * 3)) = some (.int .i64 e.a) ∧ W.cell? ((⟨b, off, spot⟩ : Addr).add (i * 3 + 1)) = some (.int .i64 e.c) ∧ W.cell? ((⟨b, off, spot⟩ : Addr).add (i * 3 + 2)) = some (.string e.n) ∧ e.n.size + 1 ≤ Rows.uptoBulk (D i) ∧ e.a ≤ 9223372036854775807 := by
      intro i hi
      obtain ⟨cs', hcs, ht⟩ := hel i (by omega)
      obtain ⟨e, rfl, hbk, ha⟩ := edit_cells ht
      obtain ⟨_, _, hc⟩ := World.cells?_some hcs
      refine ⟨e, ?_, ?_, ?_, hbk, ha⟩
      · have := hc 0 (by omega); rw [add_add] at this; simpa using this
      · have := hc 1 (by omega); rw [add_add] at this; simpa using this
      · have := hc 2 (by omega); rw [add_add] at this; simpa using this
    have hspot : spot = none := by
      obtain ⟨e, h1, _⟩ := hone 0 (by omega)
      simpa [Addr.add] using World.cell?_spot h1
    subst hspot
    have hall : ∀ k, k ≤ len → ∃ es : List Ed, es.length = k ∧ EdsAt W b off es ∧ sumN es + k ≤ Rows.uptoBulkAll ((List.range k).map D) ∧ ∀ e ∈ es, e.a ≤ 9223372036854775807 := by
      intro k
      induction k with
      | zero => intro _; exact ⟨[], rfl, fun i hi => absurd hi (by simp), by simp [sumN], fun e he => by cases he⟩
      | succ k ih =>
        intro hk
        obtain ⟨es, hl, hE, hS, hA⟩ := ih (by omega)
        obtain ⟨e, h1, h2, h3, h4, h5⟩ := hone k (by omega)
        refine ⟨es ++ [e], by simp [hl], fun i hi => ?_, ?_, ?_⟩
        · by_cases hik : i < es.length
          · rw [List.getElem_append_left hik]; exact hE i hik
          · have hik' : i = k := by simp at hi; omega
            subst hik'
            have e1 : (es ++ [e])[i]'hi = e := by
              rw [List.getElem_append_right (by omega)]; simp [hl]
            rw [e1]
            rw [add_plain] at h1 h2 h3
            exact ⟨h1, by rw [Nat.add_assoc]; exact h2, by rw [Nat.add_assoc]; exact h3⟩
        · rw [List.range_succ, List.map_append, bulkAll_app, sumN_app]
          simp only [List.map_cons, List.map_nil, Rows.uptoBulkAll, sumN, List.sum_cons, List.sum_nil]
          unfold sumN at hS
          omega
        · intro e' he'
          rcases List.mem_append.1 he' with h | h
          · exact hA e' h
          · simp at h; subst h; exact h5
    obtain ⟨es, hl, hE, hS, hA⟩ := hall len (Nat.le_refl _)
    simp only [Rows.uptoBulk] at hb
    exact ⟨b, off, len, m, es, rfl, hl, by omega, by omega, hE, by omega, hA⟩
end Go.Proofs.YtkbinfhclaafhaaGreatDoor
