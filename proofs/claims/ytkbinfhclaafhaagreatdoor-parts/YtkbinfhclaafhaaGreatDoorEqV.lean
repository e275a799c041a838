import Derived.Test.YtkbinfhclaafhaaGreatDoorRefQuo
import Derived.Test.YtkbinfhclaafhaaGreatDoorKeep
namespace Go.Proofs.YtkbinfhclaafhaaGreatDoor
open Go.RowKit

/-! Tokens that are gathered from the left. -/
theorem wordT_le {s : ByteArray} {p : Nat} (hp : p < s.size) : (wordT s p).T ≤ s.size := by
  unfold wordT
  split
  · exact qR_tail (by omega)
  · split
    · exact lineEnd_le (by omega)
    · split
      · rename_i h
        have := bt_lt (s := s) (i := p + 1) (by rw [h.2]; decide)
        exact bR_le (by omega)
      · simp only; omega
theorem wordT_BE {s : ByteArray} {p : Nat} (hp : p < s.size) : (wordT s p).B ≤ s.size + 2 ∧ (wordT s p).E ≤ s.size + 2 := by
  have h := wordT_le hp
  unfold wordT at h ⊢
  split
  · rename_i h1; rw [if_pos h1] at h; simp only at h ⊢; omega
  · rename_i h1
    rw [if_neg h1] at h
    split
    · rename_i h2; rw [if_pos h2] at h; simp only at h ⊢; omega
    · rename_i h2
      rw [if_neg h2] at h
      split
      · rename_i h3; rw [if_pos h3] at h; simp only at h ⊢; omega
      · simp
/-- Gathered tokens, and those that follow. -/
def joinT (l : List Tk) (ts : List Tk) : List Tk := match l.getLast? with | some u => l.dropLast ++ consT u ts | none => ts
theorem joinT_nil (ts : List Tk) : joinT [] ts = ts := rfl
theorem joinT_snoc (l : List Tk) (u : Tk) (ts : List Tk) : joinT (l ++ [u]) ts = l ++ consT u ts := by simp [joinT]
theorem consT_ne {u : Tk} (h : u.k ≠ 0) (ts : List Tk) : consT u ts = u :: ts := if_neg h
theorem joinT_end (l : List Tk) : joinT l [] = l := by
  rcases List.eq_nil_or_concat l with rfl | ⟨l', u, rfl⟩
  · rfl
  · rw [List.concat_eq_append, joinT_snoc]
    unfold consT
    split <;> rfl
theorem joinT_put (l : List Tk) (t : Tk) (ts : List Tk) (h : ∀ l' u, l = l' ++ [u] → u.k ≠ 0 ∨ t.k ≠ 0) : joinT l (consT t ts) = joinT (l ++ [t]) ts := by
  rcases List.eq_nil_or_concat l with rfl | ⟨l', u, rfl⟩
  · rw [joinT_nil, joinT_snoc]; rfl
  · rw [List.concat_eq_append] at h ⊢
    rw [joinT_snoc, joinT_snoc]
    rcases h l' u rfl with hu | ht
    · rw [consT_ne hu, List.append_assoc]; rfl
    · rw [consT_ne ht, List.append_assoc]
      unfold consT
      by_cases hu : u.k = 0
      · rw [if_pos hu]; simp only; rw [if_neg ht]; rfl
      · rw [if_neg hu]; rfl
theorem joinT_over (l : List Tk) (u t : Tk) (ts : List Tk) (hu : u.k = 0) (ht : t.k = 0) (hB : u.B = 0) (hE : u.E = 0) : joinT (l ++ [u]) (consT t ts) = joinT (l ++ [⟨u.k, u.F, t.T, u.B, u.E⟩]) ts := by
  rw [joinT_snoc, joinT_snoc]
  congr 1
  unfold consT
  rw [if_pos hu, if_pos ht]
  simp only [hu, hB, hE]
  cases ts with
  | nil => simp [ht]
  | cons v vs =>
    by_cases hv : v.k = 0
    · simp [hv]
    · simp [hv, ht]
/-- Tokens one behind the other. -/
def TC (s : ByteArray) : Nat → List Tk → Prop
  | _, [] => True
  | p, t :: ts => p ≤ t.F ∧ t.F < t.T ∧ t.T ≤ s.size ∧ t.B ≤ s.size + 2 ∧ t.E ≤ s.size + 2 ∧ TC s t.T ts
theorem TC.mono {s : ByteArray} {p q : Nat} {l : List Tk} (h : TC s p l) (hq : q ≤ p) : TC s q l := by
  cases l with
  | nil => trivial
  | cons t ts => exact ⟨Nat.le_trans hq h.1, h.2⟩
theorem TC.cons {s : ByteArray} {p : Nat} {t : Tk} {ts : List Tk} (h : TC s t.T ts) (h1 : p ≤ t.F) (h2 : t.F < t.T) (h3 : t.T ≤ s.size) (h4 : t.B ≤ s.size + 2) (h5 : t.E ≤ s.size + 2) : TC s p (consT t ts) := by
  unfold consT
  split
  · cases ts with
    | nil => exact ⟨h1, h2, h3, h4, h5, trivial⟩
    | cons u us =>
      obtain ⟨k1, k2, k3, k4, k5, k6⟩ := h
      simp only
      split
      · exact ⟨h1, by simp only; omega, k3, by simp, by simp, k6⟩
      · exact ⟨h1, h2, h3, h4, h5, k1, k2, k3, k4, k5, k6⟩
  · exact ⟨h1, h2, h3, h4, h5, h⟩
theorem TC_toksR (s : ByteArray) (p : Nat) : TC s p (toksR s p) := by
  rw [toksR]
  split
  · rename_i h
    have h0 := TC_toksR s (wordT s p).T
    have hF := wordT_F s p
    have hBE := wordT_BE h
    exact TC.cons h0 (by omega) (by have := wordT_gt s p; omega) (wordT_le h) hBE.1 hBE.2
  · trivial
termination_by s.size - p
decreasing_by have := wordT_gt s p; omega
theorem TC.len {s : ByteArray} : ∀ {l : List Tk} {p : Nat}, TC s p l → l.length ≤ s.size - p
  | [], _, _ => by simp
  | t :: ts, p, h => by
    obtain ⟨h1, h2, h3, h4, h5, h6⟩ := h
    have := TC.len h6
    simp only [List.length_cons]
    omega
def toksV (l : List Tk) : List Value := l.flatMap fun t => [.int .i64 t.k, .int .i64 t.F, .int .i64 t.T, .int .i64 t.B, .int .i64 t.E]
theorem toksV_snoc (l : List Tk) (t : Tk) : toksV (l ++ [t]) = toksV l ++ [.int .i64 t.k, .int .i64 t.F, .int .i64 t.T, .int .i64 t.B, .int .i64 t.E] := by simp [toksV]
theorem toksV_len (l : List Tk) : (toksV l).length = l.length * 5 := by
  induction l with
  | nil => rfl
  | cons t l ih => simp [toksV, List.length_flatMap] at ih ⊢; omega
theorem toksV_get : ∀ (l : List Tk) (i : Nat) (hi : i < l.length), (toksV l)[i * 5]? = some (.int .i64 l[i].k) ∧ (toksV l)[i * 5 + 1]? = some (.int .i64 l[i].F) ∧ (toksV l)[i * 5 + 2]? = some (.int .i64 l[i].T) ∧ (toksV l)[i * 5 + 3]? = some (.int .i64 l[i].B) ∧ (toksV l)[i * 5 + 4]? = some (.int .i64 l[i].E) := by
  intro l
  induction l with
  | nil => intro i hi; simp at hi
  | cons a l ih =>
    intro i hi
    have e : toksV (a :: l) = [.int .i64 a.k, .int .i64 a.F, .int .i64 a.T, .int .i64 a.B, .int .i64 a.E] ++ toksV l := by simp [toksV]
    cases i with
    | zero => rw [e]; simp
    | succ i =>
      have := ih i (by simpa using hi)
      rw [e, show (i + 1) * 5 = i * 5 + 5 by omega]
      simpa using this
/-- The last token's end written over. -/
theorem toksV_over (l : List Tk) (u : Tk) (T : Nat) : (toksV (l ++ [u])).set (l.length * 5 + 2) (.int .i64 T) = toksV (l ++ [⟨u.k, u.F, T, u.B, u.E⟩]) := by
  rw [toksV_snoc, toksV_snoc, List.set_append_right (h := by rw [toksV_len]; omega), toksV_len]
  simp [show l.length * 5 + 2 - l.length * 5 = 2 by omega]
/-- The document's parts, as cells. -/
def docV (l : List PR) : List Value := l.flatMap fun t => [.int .i64 t.line, .int .i64 t.kind, .int .i64 t.from_, .int .i64 t.to_, .int .i64 t.body, .int .i64 t.end_]
end Go.Proofs.YtkbinfhclaafhaaGreatDoor
