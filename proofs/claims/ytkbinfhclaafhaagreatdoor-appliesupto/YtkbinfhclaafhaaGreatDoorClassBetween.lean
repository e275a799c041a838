import Derived.Test.YtkbinfhclaafhaaGreatDoorClass
namespace Go.Proofs.YtkbinfhclaafhaaGreatDoor
open Go.RowKit
set_option maxRecDepth 100000 in
set_option maxHeartbeats 8000000 in
theorem class_between (r : Int) (w : World) (h : Between r) :
    Calls Tryz.prog 69 #[.int .i64 r] w fun e w' => e = .returned (.int .i64 (cls r)) ∧ Below w.heap.size w w' := by
  have h' : (r < 48 ∧ r ≠ 9 ∧ r ≠ 32 ∧ r ≠ 43 ∧ r ≠ 45) ∨ (57 < r ∧ r < 768 ∧ r ≠ 173) ∨ (879 < r ∧ r < 1488) ∨ (1514 < r ∧ r < 1575 ∧ r ≠ 1564) ∨ (1618 < r ∧ r < 1632) ∨ (1641 < r ∧ r < 8294 ∧ r ≠ 8195 ∧ r ≠ 8203 ∧ r ≠ 8207) ∨ 8297 < r := by
    unfold Between at h; omega
  have e1 : (r == 8207) = false := by unfold Between at h; simp; omega
  have e2 : (r == 1564) = false := by unfold Between at h; simp; omega
  have e3 : (r == 43) = false := by unfold Between at h; simp; omega
  have e4 : (r == 45) = false := by unfold Between at h; simp; omega
  have e5 : (r == 173) = false := by unfold Between at h; simp; omega
  have e6 : (r == 8203) = false := by unfold Between at h; simp; omega
  have e7 : (r == 9) = false := by unfold Between at h; simp; omega
  have e8 : (r == 32) = false := by unfold Between at h; simp; omega
  have e9 : (r == 8195) = false := by unfold Between at h; simp; omega
  have HB : Hid (cls r = _) := cls_between h
  clear h
  obtain ⟨c, hc⟩ : ∃ c, c = cls r := ⟨_, rfl⟩
  rw [← hc]
  rw [← hc] at HB
  clear hc
  rcases h' with h | h | h | h | h | h | h
  all_goals
    go_enter Tryz.func69, Tryz.ntmps69
    go_wp2_with fail
    refine (among_row r [35, 36, 37, 8364] w.heap.size 0 4 4 _ rfl (by omega) (intsAt_new _ _ _ _ _ rfl rfl)).mono ?_
    rintro e wA ⟨rfl, rfl⟩
    generalize hb1 : amongB r [35, 36, 37, 8364] = b1 at HB ⊢
    go_wp2_with fail
    refine (among_row r [44, 46, 47, 58] (w.heap.size + 1) 0 4 4 _ rfl (by omega) (intsAt_new _ _ _ _ _ (by simp) rfl)).mono ?_
    rintro e wB ⟨rfl, rfl⟩
    generalize hb2 : amongB r [44, 46, 47, 58] = b2 at HB ⊢
    go_wp2_with fail
    refine (signs_any _ _ (by decide)).mono ?_
    rintro e wC ⟨v, rfl, hown, hbC⟩
    have hsl := SlI.of_owns hown
    clear hown
    go_wp2_with fail
    refine (among_any r _ v _ (by decide) hsl).mono ?_
    rintro e wD ⟨rfl, rfl⟩
    clear hsl
    generalize hb3 : amongB r (bytesI { data := #[33, 34, 38, 39, 40, 41, 42, 59, 60, 61, 62, 63, 64, 91, 92, 93, 94, 95, 96, 123, 124, 125, 126] }) = b3 at HB ⊢
    go_wp2_with fail
    refine (among_row r [9001, 9002, 12296, 12297] _ 0 4 4 _ rfl (by omega) (intsAt_new _ _ _ _ _ rfl rfl)).mono ?_
    rintro e wE ⟨rfl, rfl⟩
    generalize hb4 : amongB r [9001, 9002, 12296, 12297] = b4 at HB ⊢
    clear hb1 hb2 hb3 hb4
    have hBe : Below w.heap.size w _ := ((((Below.refl _ _).alloc (Nat.le_refl _) _).alloc (by simp) _).trans (hbC.mono (by simp; omega))).alloc (by have := hbC.size; simp at this; omega) (.cells #[.int .i64 9001, .int .i64 9002, .int .i64 12296, .int .i64 12297] 3)
    go_wp2_with fail
    all_goals
      go_ret
      refine ⟨ret_int ?_, hBe⟩
      rw [HB.out]
      clear hBe hbC HB
      simp_all

end Go.Proofs.YtkbinfhclaafhaaGreatDoor
