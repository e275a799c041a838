import Derived.Test.YtkbinfhclaafhaaGreatDoorRefPts2
import Derived.Test.YtkbinfhclaafhaaGreatDoorPtLoop
namespace Go.Proofs.YtkbinfhclaafhaaGreatDoor
open Go.RowKit

/-! The law's parts. -/
theorem docV_get : ∀ (l : List PR) (i : Nat) (hi : i < l.length), (docV l)[i * 6]? = some (.int .i64 l[i].line) ∧ (docV l)[i * 6 + 1]? = some (.int .i64 l[i].kind) ∧ (docV l)[i * 6 + 2]? = some (.int .i64 l[i].from_) ∧ (docV l)[i * 6 + 3]? = some (.int .i64 l[i].to_) ∧ (docV l)[i * 6 + 4]? = some (.int .i64 l[i].body) ∧ (docV l)[i * 6 + 5]? = some (.int .i64 l[i].end_) := by
  intro l
  induction l with
  | nil => intro i hi; simp at hi
  | cons a l ih =>
    intro i hi
    have e : docV (a :: l) = [.int .i64 a.line, .int .i64 a.kind, .int .i64 a.from_, .int .i64 a.to_, .int .i64 a.body, .int .i64 a.end_] ++ docV l := by simp [docV]
    cases i with
    | zero => rw [e]; simp
    | succ i =>
      have := ih i (by simpa using hi)
      rw [e, show (i + 1) * 6 = i * 6 + 6 by omega]
      simpa using this
theorem partV_get : ∀ (l : List PR) (i : Nat) (hi : i < l.length), (partV l)[i * 5]? = some (.int .i64 l[i].kind) ∧ (partV l)[i * 5 + 1]? = some (.int .i64 l[i].from_) ∧ (partV l)[i * 5 + 2]? = some (.int .i64 l[i].to_) ∧ (partV l)[i * 5 + 3]? = some (.int .i64 l[i].body) ∧ (partV l)[i * 5 + 4]? = some (.int .i64 l[i].end_) := by
  intro l
  induction l with
  | nil => intro i hi; simp at hi
  | cons a l ih =>
    intro i hi
    have e : partV (a :: l) = [.int .i64 a.kind, .int .i64 a.from_, .int .i64 a.to_, .int .i64 a.body, .int .i64 a.end_] ++ partV l := by simp [partV, partC]
    cases i with
    | zero => rw [e]; simp
    | succ i =>
      have := ih i (by simpa using hi)
      rw [e, show (i + 1) * 5 = i * 5 + 5 by omega]
      simpa using this
/-- The document's parts, the lines and the parts of the program, as they lie. -/
def DocAt (w : World) (g : Nat) (l : List PR) : Prop := ∀ i (hi : i < l.length), w.cell? ⟨g, i * 6, none⟩ = some (.int .i64 l[i].line) ∧ w.cell? ⟨g, i * 6 + 1, none⟩ = some (.int .i64 l[i].kind) ∧ w.cell? ⟨g, i * 6 + 2, none⟩ = some (.int .i64 l[i].from_) ∧ w.cell? ⟨g, i * 6 + 3, none⟩ = some (.int .i64 l[i].to_) ∧ w.cell? ⟨g, i * 6 + 4, none⟩ = some (.int .i64 l[i].body) ∧ w.cell? ⟨g, i * 6 + 5, none⟩ = some (.int .i64 l[i].end_)
def PartAt (w : World) (g : Nat) (l : List PR) : Prop := ∀ i (hi : i < l.length), w.cell? ⟨g, i * 5, none⟩ = some (.int .i64 l[i].kind) ∧ w.cell? ⟨g, i * 5 + 1, none⟩ = some (.int .i64 l[i].from_) ∧ w.cell? ⟨g, i * 5 + 2, none⟩ = some (.int .i64 l[i].to_) ∧ w.cell? ⟨g, i * 5 + 3, none⟩ = some (.int .i64 l[i].body) ∧ w.cell? ⟨g, i * 5 + 4, none⟩ = some (.int .i64 l[i].end_)
def LineAt (w : World) (g : Nat) (l : List PR) : Prop := ∀ i (hi : i < l.length), w.cell? ⟨g, i, none⟩ = some (.int .i64 l[i].line)
theorem docAt_of {w : World} {B g cap n : Nat} {l : List PR} {e : TypeId} (h : w.ownsRow B e 6 (.slice (some ⟨g, 0, none⟩) n cap) n (docV l)) (hn : n = l.length) : DocAt w g l := by
  intro i hi
  obtain ⟨k0, k1, k2, k3, k4, k5⟩ := docV_get l i hi
  exact ⟨by rw [World.ownsRow.cellAt h (i * 6) (by omega)]; exact k0, by rw [World.ownsRow.cellAt h (i * 6 + 1) (by omega)]; exact k1, by rw [World.ownsRow.cellAt h (i * 6 + 2) (by omega)]; exact k2, by rw [World.ownsRow.cellAt h (i * 6 + 3) (by omega)]; exact k3, by rw [World.ownsRow.cellAt h (i * 6 + 4) (by omega)]; exact k4, by rw [World.ownsRow.cellAt h (i * 6 + 5) (by omega)]; exact k5⟩
theorem partAt_of {w : World} {B g cap n : Nat} {l : List PR} {e : TypeId} (h : w.ownsRow B e 5 (.slice (some ⟨g, 0, none⟩) n cap) n (partV l)) (hn : n = l.length) : PartAt w g l := by
  intro i hi
  obtain ⟨k0, k1, k2, k3, k4⟩ := partV_get l i hi
  exact ⟨by rw [World.ownsRow.cellAt h (i * 5) (by omega)]; exact k0, by rw [World.ownsRow.cellAt h (i * 5 + 1) (by omega)]; exact k1, by rw [World.ownsRow.cellAt h (i * 5 + 2) (by omega)]; exact k2, by rw [World.ownsRow.cellAt h (i * 5 + 3) (by omega)]; exact k3, by rw [World.ownsRow.cellAt h (i * 5 + 4) (by omega)]; exact k4⟩
theorem lineAt_of {w : World} {B g cap n : Nat} {l : List PR} {e : TypeId} (h : w.ownsRow B e 1 (.slice (some ⟨g, 0, none⟩) n cap) n (lineV l)) (hn : n = l.length) : LineAt w g l := by
  intro i hi
  rw [World.ownsRow.cellAt h i (by omega)]
  simp [lineV, hi]
theorem DocAt.take {w : World} {g : Nat} {l : List PR} (h : DocAt w g l) (m : Nat) : DocAt w g (l.take m) := by
  intro i hi
  have hi' : i < l.length := by simp at hi; omega
  have := h i hi'
  simpa using this
theorem DocAt.below {w w' : World} {g : Nat} {l : List PR} (h : DocAt w g l) (hb : Below w.heap.size w w') : DocAt w' g l := by
  intro i hi
  obtain ⟨k0, k1, k2, k3, k4, k5⟩ := h i hi
  exact ⟨cell_keep hb k0, cell_keep hb k1, cell_keep hb k2, cell_keep hb k3, cell_keep hb k4, cell_keep hb k5⟩
theorem PartAt.below {w w' : World} {g : Nat} {l : List PR} (h : PartAt w g l) (hb : Below w.heap.size w w') : PartAt w' g l := by
  intro i hi
  obtain ⟨k0, k1, k2, k3, k4⟩ := h i hi
  exact ⟨cell_keep hb k0, cell_keep hb k1, cell_keep hb k2, cell_keep hb k3, cell_keep hb k4⟩
theorem LineAt.below {w w' : World} {g : Nat} {l : List PR} (h : LineAt w g l) (hb : Below w.heap.size w w') : LineAt w' g l := fun i hi => cell_keep hb (h i hi)
theorem segR_code {s : ByteArray} {k T B E ln bg fr p : Nat} : ∀ x ∈ segR s k T B E ln bg fr p, x.kind = 0 → x.body = x.end_ := by
  have he : ∀ ln k bg fr p B E, ∀ x ∈ emitD ln k bg fr p B E, x.kind = 0 → x.body = x.end_ := by
    intro ln k bg fr p B E x hx hk
    unfold emitD at hx
    split at hx
    · simp at hx
      subst hx
      simp only at hk
      subst hk
      simp
    · cases hx
  fun_induction segR s k T B E ln bg fr p with
  | case1 ln bg fr p h1 h2 ih =>
    intro x hx
    rcases List.mem_append.1 hx with hx | hx
    · exact he _ _ _ _ _ _ _ x hx
    · exact ih x hx
  | case2 ln bg fr p h1 h2 ih => exact ih
  | case3 ln bg fr p h1 => exact he _ _ _ _ _ _ _
theorem docD_code (s : ByteArray) : ∀ (ts : List Tk) (ln bg : Nat), ∀ x ∈ docD s ts ln bg, x.kind = 0 → x.body = x.end_
  | [], _, _, x, hx => by cases hx
  | t :: ts, ln, bg, x, hx => by
    rw [docD] at hx
    rcases List.mem_append.1 hx with hx | hx
    · exact segR_code x hx
    · exact docD_code s ts _ _ x hx
theorem takeX_code (s : ByteArray) (n : Int) : ∀ x ∈ takeX n (partsX s), x.kind = 0 → x.body = x.end_ := by
  have h : ∀ x ∈ partsX s, x.kind = 0 → x.body = x.end_ := by
    rw [← docR_eq]
    unfold docR
    split
    · exact docD_code s _ _ _
    · intro x hx; cases hx
  intro x hx
  unfold takeX at hx
  split at hx
  · exact h x (List.mem_of_mem_take hx)
  · exact h x hx
end Go.Proofs.YtkbinfhclaafhaaGreatDoor
