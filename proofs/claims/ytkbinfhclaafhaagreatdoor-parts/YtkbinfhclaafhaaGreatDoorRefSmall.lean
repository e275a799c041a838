import Derived.Test.YtkbinfhclaafhaaGreatDoorSpec
import Derived.Test.YtkbinfhclaafhaaGreatDoorClass
namespace Go.Proofs.YtkbinfhclaafhaaGreatDoor
open Go.RowKit

set_option maxHeartbeats 1000000 in
theorem isolate_any (c : Int) (w : World) : Calls Tryz.prog 114 #[.int .i64 c] w fun e w' => e = .returned (.bool (isoB c)) ∧ w' = w := by
  obtain ⟨q, hq⟩ : ∃ q, q = isoB c := ⟨_, rfl⟩
  rw [← hq]
  have HQ : Hid (q = isoB c) := hq
  clear hq
  by_cases h1 : (c == 18) = true
  · go_enter Tryz.func114, Tryz.ntmps114
    go_wp2
    go_ret
    exact ⟨ret_bool (by rw [HQ.out, isoB, h1]; rfl), rfl⟩
  have h1 : (c == 18) = false := by simpa using h1
  by_cases h2 : (c == 19) = true
  · go_enter Tryz.func114, Tryz.ntmps114
    go_wp2
    go_ret
    exact ⟨ret_bool (by rw [HQ.out, isoB, h1, h2]; rfl), rfl⟩
  have h2 : (c == 19) = false := by simpa using h2
  go_enter Tryz.func114, Tryz.ntmps114
  go_wp2
  go_ret
  exact ⟨ret_bool (by rw [HQ.out, isoB, h1, h2]; rfl), rfl⟩

set_option maxHeartbeats 2000000 in
theorem matching_row (cs : List Int) (i b off cap len : Nat) (w : World) (hl : cs.length = len) (hn : len ≤ 1000000) (hi : i ≤ len) (hc : IntsAt w b off cs) :
    Calls Tryz.prog 115 #[.slice (some ⟨b, off, none⟩) len cap, .int .i64 i] w fun e w' => e = .returned (.int .i64 (mt cs i)) ∧ w' = w := by
  have HC : Hid (IntsAt w b off cs) := hc
  have HL : Hid (cs.length = len) := hl
  have HS : Hid (MtTo cs i i 0) := MtTo.start cs i (by omega)
  clear hc hl
  go_enter Tryz.func115, Tryz.ntmps115
  go_wp2
  go_loop [5, 6] (fun n k => ∃ (m : Nat) (z : Int), m ≤ len ∧ k = .int .i64 m ∧ n = .int .i64 z ∧ -(m : Int) ≤ z ∧ z ≤ m ∧ MtTo cs i m z) (fun _ k => len - (intOf k).toNat)
  case atStart => exact ⟨i, 0, hi, rfl, rfl, by omega, by omega, HS.out⟩
  case round =>
    obtain ⟨m, z, hm, rfl, rfl, hz1, hz2, hT⟩ := hrel
    have HT : Hid (MtTo cs i m z) := hT
    clear hT HS
    by_cases hlt : m < len
    · have hcell := HC.out m (by rw [HL.out]; exact hlt)
      obtain ⟨c, hx⟩ : ∃ c, c = cs.getD m 0 := ⟨_, rfl⟩
      rw [← hx] at hcell
      have HX : Hid (c = cs.getD m 0) := hx
      have HK : Hid (m < cs.length) := by show m < cs.length; rw [HL.out]; exact hlt
      clear hx
      by_cases h21 : c = 21
      · have HI : Hid (Calls Tryz.prog 114 #[.int .i64 c] w fun e w' => e = .returned (.bool false) ∧ w' = w) := by
          have := isolate_any c w; rw [h21, isoB_pdi] at this; rw [h21]; exact this
        have HE : Hid (c = 21) := h21
        have h21' : (c == 21) = true := by simpa using h21
        clear h21
        by_cases hz0 : z - 1 = 0
        · have hz0' : (z - 1 == 0) = true := by simpa using hz0
          have HZ : Hid (z - 1 = 0) := hz0
          clear hz0
          go_wp2_with fail
          refine HI.out.mono ?_
          rintro e w' ⟨rfl, rfl⟩
          go_wp2
          go_ret
          refine ⟨ret_int ?_, rfl⟩
          rw [HT.out.hit HK.out (by rw [← HX.out]; exact HE.out) HZ.out]
        · have hz0' : (z - 1 == 0) = false := by simpa using hz0
          have HZ : Hid (z - 1 ≠ 0) := hz0
          clear hz0
          go_wp2_with fail
          refine HI.out.mono ?_
          rintro e w' ⟨rfl, rfl⟩
          go_wp2
          go_round
          case rel => exact ⟨m + 1, z - 1, by omega, by go_num, rfl, by omega, by omega, HT.out.pdi HK.out (by rw [← HX.out]; exact HE.out) HZ.out⟩
          case measure => simp [intOf]; omega
      · have HP : Hid (MtTo cs i (m + 1) (if isoB c = true then z + 1 else z)) := by
          have := HT.out.plain HK.out (by rw [← HX.out]; exact h21)
          rw [← HX.out] at this; exact this
        have h21' : (c == 21) = false := by simpa using h21
        clear h21
        go_wp2_with fail
        refine (isolate_any c w).mono ?_
        rintro e w' ⟨rfl, rfl⟩
        cases hq : isoB c
        · have HP' : Hid (MtTo cs i (m + 1) z) := by have := HP.out; rw [hq] at this; exact this
          clear hq HP
          go_wp2
          go_round
          case rel => exact ⟨m + 1, z, by omega, by go_num, rfl, by omega, by omega, HP'.out⟩
          case measure => simp [intOf]; omega
        · have HP' : Hid (MtTo cs i (m + 1) (z + 1)) := by have := HP.out; rw [hq] at this; exact this
          clear hq HP
          go_wp2
          go_round
          case rel => exact ⟨m + 1, z + 1, by omega, by go_num, rfl, by omega, by omega, HP'.out⟩
          case measure => simp [intOf]; omega
    · have HM : Hid (mt cs i = len) := by show mt cs i = len; rw [← HL.out]; exact HT.out.stop (by rw [HL.out]; exact hlt)
      go_wp2
      go_ret
      exact ⟨ret_int (by rw [HM.out]), rfl⟩
end Go.Proofs.YtkbinfhclaafhaaGreatDoor
