import Derived.Test.YtkbinfhclaafhaaDoorPtOpen
namespace Go.Proofs.YtkbinfhclaafhaaDoor
open Go.RowKit

/-! The machine that the reader is. -/
/-- Where a string ends that i stands in, and whether by its sign. -/
def qR (s : ByteArray) (i : Nat) : Nat × Bool :=
  if i < s.size ∧ bt s i ≠ 10 then
    if bt s i = 34 then (i, true)
    else if bt s i = 92 ∧ bt s (i + 1) ≠ 10 then qR s (i + 2)
    else qR s (i + 1)
  else (i, false)
termination_by s.size - i
theorem bt_lt {s : ByteArray} {i : Nat} (h : bt s i ≠ 10) : i < s.size := by
  rcases Nat.lt_or_ge i s.size with h' | h'
  · exact h'
  · exact absurd (bt_out (by omega)) h
theorem le_qR (s : ByteArray) (i : Nat) : i ≤ (qR s i).1 := by
  fun_induction qR s i <;> simp_all <;> omega
theorem qR_le {s : ByteArray} {i : Nat} (h : i ≤ s.size) : (qR s i).1 ≤ s.size := by
  fun_induction qR s i with
  | case1 i h1 h2 => exact h
  | case2 i h1 h2 h3 ih => exact ih (by have := bt_lt h3.2; omega)
  | case3 i h1 h2 h3 ih => exact ih (by omega)
  | case4 i h1 => exact h
theorem qR_true {s : ByteArray} {i : Nat} (h : (qR s i).2 = true) : (qR s i).1 < s.size ∧ bt s (qR s i).1 = 34 := by
  fun_induction qR s i with
  | case1 i h1 h2 => exact ⟨h1.1, h2⟩
  | case2 i h1 h2 h3 ih => exact ih h
  | case3 i h1 h2 h3 ih => exact ih h
  | case4 i h1 => cases h
def qT (s : ByteArray) (i : Nat) : Nat := if (qR s i).2 then 1 else 0
theorem qR_tail {s : ByteArray} {i : Nat} (h : i ≤ s.size) : (qR s i).1 + qT s i ≤ s.size := by
  unfold qT
  split
  · have := (qR_true (by assumption)).1; omega
  · have := qR_le h; omega
def mvP (p : RP) (j : Nat) : RP := ⟨p.line, p.start, p.from_, p.body, j⟩
theorem cutP_at {t : Nat} {p : RP} : (cutP t p).at_ = p.at_ + t := by unfold cutP; split <;> rfl
theorem cutS_false {t : Nat} {p : RP} : cutS t p false = cutP t p := by unfold cutS; rfl
/-- What is told from p on, within a comment or not. -/
def runP (s : ByteArray) (blk : Bool) (p : RP) : List PR :=
  if p.at_ < s.size then
    if blk = true then
      if bt s p.at_ = 42 ∧ bt s (p.at_ + 1) = 47 then emitP 2 2 p ++ runP s false (cutP 2 p)
      else if bt s p.at_ = 10 then emitP 2 0 p ++ runP s true (feedP (cutP 0 p))
      else runP s true (mvP p (p.at_ + 1))
    else if bt s p.at_ = 34 then
      emitP 0 0 p ++ (emitP 1 (qT s (p.at_ + 1)) (mvP (openS 1 p false) (qR s (p.at_ + 1)).1) ++ runP s false (cutP (qT s (p.at_ + 1)) (mvP (openS 1 p false) (qR s (p.at_ + 1)).1)))
    else if bt s p.at_ = 47 ∧ bt s (p.at_ + 1) = 47 then
      emitP 0 0 p ++ (emitP 2 0 (mvP (openS 2 p false) (lineEnd s (p.at_ + 2))) ++ runP s false (cutP 0 (mvP (openS 2 p false) (lineEnd s (p.at_ + 2)))))
    else if bt s p.at_ = 47 ∧ bt s (p.at_ + 1) = 42 then emitP 0 0 p ++ runP s true (openS 2 p false)
    else if bt s p.at_ = 10 then emitP 0 0 p ++ runP s false (feedP (cutP 0 p))
    else runP s false (mvP p (p.at_ + 1))
  else emitP (if blk then 2 else 0) 0 p
termination_by s.size - p.at_
decreasing_by
  · rw [cutP_at]; omega
  · show _ - ((cutP 0 p).at_ + 1) < _; rw [cutP_at]; omega
  · show _ - (p.at_ + 1) < _; omega
  · rw [cutP_at]; show _ - ((qR s (p.at_ + 1)).1 + _) < _; have := le_qR s (p.at_ + 1); omega
  · rw [cutP_at]; show _ - (lineEnd s (p.at_ + 2) + 0) < _; have := le_lineEnd s (p.at_ + 2); omega
  · rw [openS_at]; omega
  · show _ - ((cutP 0 p).at_ + 1) < _; rw [cutP_at]; omega
  · show _ - (p.at_ + 1) < _; omega
end Go.Proofs.YtkbinfhclaafhaaDoor
