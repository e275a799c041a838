import Derived.Test.YtkbinfhclaafhaaGreatDoorClass
namespace Go.Proofs.YtkbinfhclaafhaaGreatDoor
open Go.RowKit
set_option maxRecDepth 100000 in
set_option maxHeartbeats 4000000 in
theorem class_done (r : Int) (w : World) (h : ¬ Between r) :
    Calls Tryz.prog 69 #[.int .i64 r] w fun e w' => e = .returned (.int .i64 (cls r)) ∧ Below w.heap.size w w' := by
  have h' : (1488 ≤ r ∧ r ≤ 1514) ∨ r = 8207 ∨ (1575 ≤ r ∧ r ≤ 1610) ∨ r = 1564 ∨ (48 ≤ r ∧ r ≤ 57) ∨ r = 43 ∨ r = 45 ∨ (1632 ≤ r ∧ r ≤ 1641) ∨ (768 ≤ r ∧ r ≤ 879) ∨ (1611 ≤ r ∧ r ≤ 1618) ∨ r = 173 ∨ r = 8203 ∨ r = 9 ∨ r = 32 ∨ r = 8195 ∨ (8294 ≤ r ∧ r ≤ 8297) := by
    unfold Between at h; omega
  clear h
  obtain ⟨c, hc⟩ : ∃ c, c = cls r := ⟨_, rfl⟩
  rw [← hc]
  have HC : Hid (c = cls r) := hc
  clear hc
  rcases h' with h | h | h | h | h | h | h | h | h | h | h | h | h | h | h | h
  · obtain ⟨h1, h2⟩ := h
    have e0 : (r == 8207) = false := by simp; omega
    have e1 : (r == 1564) = false := by simp; omega
    have e2 : (r == 43) = false := by simp; omega
    have e3 : (r == 45) = false := by simp; omega
    have e4 : (r == 173) = false := by simp; omega
    have e5 : (r == 8203) = false := by simp; omega
    have e6 : (r == 9) = false := by simp; omega
    have e7 : (r == 32) = false := by simp; omega
    have e8 : (r == 8195) = false := by simp; omega
    go_enter Tryz.func69, Tryz.ntmps69
    go_wp2_with fail
    go_ret
    exact ⟨ret_int (by rw [HC.out]; exact (cls_0 (by omega)).symm), Below.refl _ _⟩
  · subst h
    go_enter Tryz.func69, Tryz.ntmps69
    go_wp2_with fail
    go_ret
    exact ⟨ret_int (by rw [HC.out]; exact (cls_0 (by omega)).symm), Below.refl _ _⟩
  · obtain ⟨h1, h2⟩ := h
    have e0 : (r == 8207) = false := by simp; omega
    have e1 : (r == 1564) = false := by simp; omega
    have e2 : (r == 43) = false := by simp; omega
    have e3 : (r == 45) = false := by simp; omega
    have e4 : (r == 173) = false := by simp; omega
    have e5 : (r == 8203) = false := by simp; omega
    have e6 : (r == 9) = false := by simp; omega
    have e7 : (r == 32) = false := by simp; omega
    have e8 : (r == 8195) = false := by simp; omega
    go_enter Tryz.func69, Tryz.ntmps69
    go_wp2_with fail
    go_ret
    exact ⟨ret_int (by rw [HC.out]; exact (cls_1 (by omega)).symm), Below.refl _ _⟩
  · subst h
    go_enter Tryz.func69, Tryz.ntmps69
    go_wp2_with fail
    go_ret
    exact ⟨ret_int (by rw [HC.out]; exact (cls_1 (by omega)).symm), Below.refl _ _⟩
  · obtain ⟨h1, h2⟩ := h
    have e0 : (r == 8207) = false := by simp; omega
    have e1 : (r == 1564) = false := by simp; omega
    have e2 : (r == 43) = false := by simp; omega
    have e3 : (r == 45) = false := by simp; omega
    have e4 : (r == 173) = false := by simp; omega
    have e5 : (r == 8203) = false := by simp; omega
    have e6 : (r == 9) = false := by simp; omega
    have e7 : (r == 32) = false := by simp; omega
    have e8 : (r == 8195) = false := by simp; omega
    go_enter Tryz.func69, Tryz.ntmps69
    go_wp2_with fail
    go_ret
    exact ⟨ret_int (by rw [HC.out]; exact (cls_2 (by omega)).symm), Below.refl _ _⟩
  · subst h
    go_enter Tryz.func69, Tryz.ntmps69
    go_wp2_with fail
    go_ret
    exact ⟨ret_int (by rw [HC.out]; exact (cls_3 (by omega)).symm), Below.refl _ _⟩
  · subst h
    go_enter Tryz.func69, Tryz.ntmps69
    go_wp2_with fail
    go_ret
    exact ⟨ret_int (by rw [HC.out]; exact (cls_3 (by omega)).symm), Below.refl _ _⟩
  · obtain ⟨h1, h2⟩ := h
    have e0 : (r == 8207) = false := by simp; omega
    have e1 : (r == 1564) = false := by simp; omega
    have e2 : (r == 43) = false := by simp; omega
    have e3 : (r == 45) = false := by simp; omega
    have e4 : (r == 173) = false := by simp; omega
    have e5 : (r == 8203) = false := by simp; omega
    have e6 : (r == 9) = false := by simp; omega
    have e7 : (r == 32) = false := by simp; omega
    have e8 : (r == 8195) = false := by simp; omega
    go_enter Tryz.func69, Tryz.ntmps69
    go_wp2_with fail
    go_ret
    exact ⟨ret_int (by rw [HC.out]; exact (cls_4 (by omega)).symm), Below.refl _ _⟩
  · obtain ⟨h1, h2⟩ := h
    have e0 : (r == 8207) = false := by simp; omega
    have e1 : (r == 1564) = false := by simp; omega
    have e2 : (r == 43) = false := by simp; omega
    have e3 : (r == 45) = false := by simp; omega
    have e4 : (r == 173) = false := by simp; omega
    have e5 : (r == 8203) = false := by simp; omega
    have e6 : (r == 9) = false := by simp; omega
    have e7 : (r == 32) = false := by simp; omega
    have e8 : (r == 8195) = false := by simp; omega
    go_enter Tryz.func69, Tryz.ntmps69
    go_wp2_with fail
    go_ret
    exact ⟨ret_int (by rw [HC.out]; exact (cls_5 (by omega)).symm), Below.refl _ _⟩
  · obtain ⟨h1, h2⟩ := h
    have e0 : (r == 8207) = false := by simp; omega
    have e1 : (r == 1564) = false := by simp; omega
    have e2 : (r == 43) = false := by simp; omega
    have e3 : (r == 45) = false := by simp; omega
    have e4 : (r == 173) = false := by simp; omega
    have e5 : (r == 8203) = false := by simp; omega
    have e6 : (r == 9) = false := by simp; omega
    have e7 : (r == 32) = false := by simp; omega
    have e8 : (r == 8195) = false := by simp; omega
    go_enter Tryz.func69, Tryz.ntmps69
    go_wp2_with fail
    go_ret
    exact ⟨ret_int (by rw [HC.out]; exact (cls_5 (by omega)).symm), Below.refl _ _⟩
  · subst h
    go_enter Tryz.func69, Tryz.ntmps69
    go_wp2_with fail
    go_ret
    exact ⟨ret_int (by rw [HC.out]; exact (cls_6 (by omega)).symm), Below.refl _ _⟩
  · subst h
    go_enter Tryz.func69, Tryz.ntmps69
    go_wp2_with fail
    go_ret
    exact ⟨ret_int (by rw [HC.out]; exact (cls_6 (by omega)).symm), Below.refl _ _⟩
  · subst h
    go_enter Tryz.func69, Tryz.ntmps69
    go_wp2_with fail
    go_ret
    exact ⟨ret_int (by rw [HC.out]; exact (cls_7 (by omega)).symm), Below.refl _ _⟩
  · subst h
    go_enter Tryz.func69, Tryz.ntmps69
    go_wp2_with fail
    go_ret
    exact ⟨ret_int (by rw [HC.out]; exact (cls_8 (by omega)).symm), Below.refl _ _⟩
  · subst h
    go_enter Tryz.func69, Tryz.ntmps69
    go_wp2_with fail
    go_ret
    exact ⟨ret_int (by rw [HC.out]; exact (cls_8 (by omega)).symm), Below.refl _ _⟩
  · obtain ⟨h1, h2⟩ := h
    have e0 : (r == 8207) = false := by simp; omega
    have e1 : (r == 1564) = false := by simp; omega
    have e2 : (r == 43) = false := by simp; omega
    have e3 : (r == 45) = false := by simp; omega
    have e4 : (r == 173) = false := by simp; omega
    have e5 : (r == 8203) = false := by simp; omega
    have e6 : (r == 9) = false := by simp; omega
    have e7 : (r == 32) = false := by simp; omega
    have e8 : (r == 8195) = false := by simp; omega
    go_enter Tryz.func69, Tryz.ntmps69
    go_wp2_with fail
    go_ret
    exact ⟨ret_int (by rw [HC.out]; exact (cls_9 (by omega)).symm), Below.refl _ _⟩
end Go.Proofs.YtkbinfhclaafhaaGreatDoor
