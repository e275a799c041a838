import Derived.Test.YtkbinfhclaafhaaGreatDoorApOpen
namespace Go.Proofs.YtkbinfhclaafhaaGreatDoor
open Go.ChangeShapes Go.WideShapes Go.ChangeAt Go.RowKit Go.Deep Go.Lib
set_option maxRecDepth 100000

/-- A step opened, where it is small. -/
theorem op_small {H : Type} {enc : TypeId × Value → H} {w : World} {fuel : Nat} {cs : List Value} {x : DataW H × List MemPlace}
    (h : DataW.trod enc Tryz.prog w 0 (fun _ => true) true fuel 29 cs = some x) (hb : Rows.uptoBulk x.1 ≤ 1048576) : ∃ o : OpD, cs = [.int .i64 o.k, .int .i64 o.a, .string o.s, o.e] ∧ (∃ ao n c, o.e = .slice ao n c) ∧ ApOk w o := by
  obtain ⟨y0, y1, y2, y3, n, hx, hl, h0, h1, h2, h3⟩ := Joins.trod_struct4 Tryz.underlying29 h
  rw [cellsOp] at hl
  match cs, hl with
  | [c0, c1, c2, c3], _ =>
    obtain ⟨a, e0, _, _⟩ := DataW.trod_int Tryz.underlying3 (by simpa [cellsInt] using h0)
    obtain ⟨b, e1, _, _⟩ := DataW.trod_int Tryz.underlying3 (by simpa [cellsInt] using h1)
    obtain ⟨s, e2, hy2, _⟩ := DataW.trod_string Tryz.underlying9 (by simpa [cellsStr] using h2)
    have h3' : DataW.trod enc Tryz.prog w 0 (fun _ => true) true n 27 [c3] = some y3 := by simpa [cellsEdits] using h3
    obtain ⟨ao, l, c, e3⟩ := Joins.slice_form Tryz.underlying27 h3'
    simp at e0 e1 e2 e3
    subst e0 e1 e2
    rw [hx, hy2] at hb
    simp only [Rows.uptoBulk, Rows.uptoBulkAll] at hb
    have hs : s.data.toList.length = s.size := rfl
    refine ⟨⟨a, b, s, c3⟩, rfl, ⟨ao, l, c, e3⟩, ?_, ?_⟩
    · show s.size ≤ _
      omega
    · exact open_edits h3' (by omega)
/-- A script opened, where it is small. -/
theorem open_small {H : Type} {enc : TypeId × Value → H} {W : World} {fuel : Nat} {cs : List Value} {x : DataW H × List MemPlace}
    (h : DataW.trod enc Tryz.prog W 0 (fun _ => true) true fuel 22 cs = some x) (hb : Rows.uptoBulk x.1 ≤ 1048576) :
    (∃ ao cap, cs = [.slice ao 0 cap]) ∨ ∃ b off len cap, ∃ ops : List OpD, cs = [.slice (some ⟨b, off, none⟩) len cap] ∧ ops.length = len ∧ OpsAt W b off ops ∧ (∀ o ∈ ops, ApOk W o) ∧
      ∃ elems spare ps, x = (.slice elems spare, ps) ∧ elems.length = len := by
  rcases open_slice Tryz.underlying22 h with ⟨rfl, _⟩ | ⟨a, len, cap, m, n, D, Pl, rfl, _, hlc, _, hm, rfl, hel⟩
  · exact .inl ⟨_, _, rfl⟩
  · by_cases h0 : len = 0
    · subst h0; exact .inl ⟨_, _, rfl⟩
    right
    have hm' : m = cap := by simpa using hm
    subst hm'
    rw [cellsOp] at hel
    obtain ⟨b, off, spot⟩ := a
    have hone : ∀ i, i < len → ∃ o : OpD, W.cell? ((⟨b, off, spot⟩ : Addr).add (i * 4)) = some (.int .i64 o.k) ∧ W.cell? ((⟨b, off, spot⟩ : Addr).add (i * 4 + 1)) = some (.int .i64 o.a) ∧ W.cell? ((⟨b, off, spot⟩ : Addr).add (i * 4 + 2)) = some (.string o.s) ∧ W.cell? ((⟨b, off, spot⟩ : Addr).add (i * 4 + 3)) = some o.e ∧ (∃ ao n c, o.e = .slice ao n c) ∧ ApOk W o := by
      intro i hi
      obtain ⟨cs', hcs, ht⟩ := hel i (by omega)
      have hbi : Rows.uptoBulk (D i) ≤ 1048576 := by
        have h1 : D i ∈ (List.range len).map D := List.mem_map_of_mem (List.mem_range.2 hi)
        have h2 := bulkAll_mem h1
        simp only [Rows.uptoBulk] at hb
        omega
      obtain ⟨o, rfl, hf, hok⟩ := op_small ht hbi
      obtain ⟨_, _, hc⟩ := World.cells?_some hcs
      refine ⟨o, ?_, ?_, ?_, ?_, hf, hok⟩
      · have := hc 0 (by omega); rw [add_add] at this; simpa using this
      · have := hc 1 (by omega); rw [add_add] at this; simpa using this
      · have := hc 2 (by omega); rw [add_add] at this; simpa using this
      · have := hc 3 (by omega); rw [add_add] at this; simpa using this
    have hspot : spot = none := by
      obtain ⟨o, h1, _⟩ := hone 0 (by omega)
      simpa [Addr.add] using World.cell?_spot h1
    subst hspot
    have hall : ∀ k, k ≤ len → ∃ ops : List OpD, ops.length = k ∧ OpsAt W b off ops ∧ ∀ o ∈ ops, ApOk W o := by
      intro k
      induction k with
      | zero => intro _; exact ⟨[], rfl, fun i hi => absurd hi (by simp), fun o ho => by cases ho⟩
      | succ k ih =>
        intro hk
        obtain ⟨ops, hl, hO, hA⟩ := ih (by omega)
        obtain ⟨o, h1, h2, h3, h4, h5, h6⟩ := hone k (by omega)
        refine ⟨ops ++ [o], by simp [hl], fun i hi => ?_, ?_⟩
        · by_cases hik : i < ops.length
          · rw [List.getElem_append_left hik]; exact hO i hik
          · have hik' : i = k := by simp at hi; omega
            subst hik'
            have e1 : (ops ++ [o])[i]'hi = o := by
              rw [List.getElem_append_right (by omega)]; simp [hl]
            rw [e1]
            rw [add_plain] at h1 h2 h3 h4
            exact ⟨h1, by rw [Nat.add_assoc]; exact h2, by rw [Nat.add_assoc]; exact h3, by rw [Nat.add_assoc]; exact h4, h5⟩
        · intro o' ho'
          rcases List.mem_append.1 ho' with h | h
          · exact hA o' h
          · simp at h; subst h; exact h6
    obtain ⟨ops, hl, hO, hA⟩ := hall len (Nat.le_refl _)
    exact ⟨b, off, len, m, ops, rfl, hl, hO, hA, _, _, _, rfl, by simp⟩
end Go.Proofs.YtkbinfhclaafhaaGreatDoor
