import Derived.Test.YtkbinfhclaafhaaGreatDoorApRef
namespace Go.Proofs.YtkbinfhclaafhaaGreatDoor
open Go.RowKit

theorem refApply_zero (s : ByteArray) (ao : Option Addr) (cap : Nat) (w : World) (hs : s.size ≤ 1000000000000000) :
    Calls Tryz.prog 53 #[.string s, .slice ao 0 cap] w fun e w' => e = .returned (.string ((⟨#[]⟩ : ByteArray) ++ s)) ∧ Below w.heap.size w w' := by
  go_enter Tryz.func53, Tryz.ntmps53
  go_wp2
  refine wp_loop_rounds 1 ?_
  rw [rounds_succ]
  go_wp2
  go_ret
  exact ⟨rfl, Below.refl _ _⟩
theorem okE_lies (s : ByteArray) (p : Nat) (e : Ed) : okE s p e = (decide ((p : Int) ≤ e.a) && (decide (0 ≤ e.c) && decide (e.c ≤ (s.size : Int) - e.a))) := by
  unfold okE
  rw [Bool.eq_iff_iff]
  simp only [Bool.and_eq_true, decide_eq_true_eq]
  omega
set_option maxRecDepth 100000 in
set_option maxHeartbeats 4000000 in
theorem lies_any (s : ByteArray) (p : Nat) (e : Ed) (w : World) (hs : s.size ≤ 1000000000000000) (ha : e.a ≤ 9223372036854775807) :
    Calls Tryz.prog 40 #[.agg #[.int .i64 e.a, .int .i64 e.c, .string e.n], .int .i64 p, .int .i64 s.size] w fun ev w' => ev = .returned (.bool (okE s p e)) ∧ Below w.heap.size w w' := by
  rw [okE_lies]
  obtain ⟨a, c, n⟩ := e
  simp only at ha ⊢
  generalize s.size = z at *
  by_cases h1 : (p : Int) ≤ a
  · have hw : wrap64 ((z : Int) - a) = (z : Int) - a := IntWalk.wrap64_in _ (by omega)
    by_cases h2 : 0 ≤ c
    · by_cases h3 : c ≤ (z : Int) - a
      · have e1 : (decide ((p : Int) ≤ a) && (decide (0 ≤ c) && decide (c ≤ (z : Int) - a))) = true := by simp [h1, h2, h3]
        rw [e1]
        clear e1
        go_enter Tryz.func40, Tryz.ntmps40
        go_wp2
        go_ret
        exact ⟨rfl, (Below.refl _ _).alloc (Nat.le_refl _) _⟩
      · have e1 : (decide ((p : Int) ≤ a) && (decide (0 ≤ c) && decide (c ≤ (z : Int) - a))) = false := by simp [h1, h2]; omega
        have h3' : decide (c ≤ (z : Int) - a) = false := by simpa using h3
        rw [e1]
        clear e1
        go_enter Tryz.func40, Tryz.ntmps40
        go_wp2
        go_ret
        exact ⟨rfl, (Below.refl _ _).alloc (Nat.le_refl _) _⟩
    · have e1 : (decide ((p : Int) ≤ a) && (decide (0 ≤ c) && decide (c ≤ (z : Int) - a))) = false := by simp; omega
      have h2' : decide (0 ≤ c) = false := by simpa using h2
      rw [e1]
      clear e1
      go_enter Tryz.func40, Tryz.ntmps40
      go_wp2
      go_ret
      exact ⟨rfl, (Below.refl _ _).alloc (Nat.le_refl _) _⟩
  · have e1 : (decide ((p : Int) ≤ a) && (decide (0 ≤ c) && decide (c ≤ (z : Int) - a))) = false := by simp [h1]
    have h1' : decide ((p : Int) ≤ a) = false := by simpa using h1
    rw [e1]
    clear e1
    go_enter Tryz.func40, Tryz.ntmps40
    go_wp2
    go_ret
    exact ⟨rfl, (Below.refl _ _).alloc (Nat.le_refl _) _⟩
end Go.Proofs.YtkbinfhclaafhaaGreatDoor
