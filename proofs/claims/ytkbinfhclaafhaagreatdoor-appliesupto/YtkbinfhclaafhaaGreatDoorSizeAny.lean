import Derived.Test.YtkbinfhclaafhaaGreatDoorSizeDec
import Derived.Test.YtkbinfhclaafhaaGreatDoorSize3
import Derived.Test.YtkbinfhclaafhaaGreatDoorSize4
namespace Go.Proofs.YtkbinfhclaafhaaGreatDoor
open Go.RowKit

theorem size_any (s : ByteArray) (w : World) (h0 : 0 < s.size) (hs : s.size ≤ 10000) :
    Calls Tryz.prog 112 #[.string s] w fun e w' => e = .returned (.int .i64 (sz s)) ∧ w' = w := by
  have e0 : s[0]'h0 = s.get! 0 := (get_eq s 0 h0).symm
  have e1 : ∀ h : 1 < s.size, s[1]'h = s.get! 1 := fun h => (get_eq s 1 h).symm
  have e2 : ∀ h : 2 < s.size, s[2]'h = s.get! 2 := fun h => (get_eq s 2 h).symm
  have e3 : ∀ h : 3 < s.size, s[3]'h = s.get! 3 := fun h => (get_eq s 3 h).symm
  have l0 := (s.get! 0).toNat_lt
  have l1 := (s.get! 1).toNat_lt
  have l2 := (s.get! 2).toNat_lt
  have l3 := (s.get! 3).toNat_lt
  unfold sz
  obtain ⟨b0, q0⟩ : ∃ b, b = (s.get! 0).toNat := ⟨_, rfl⟩
  obtain ⟨b1, q1⟩ : ∃ b, b = (s.get! 1).toNat := ⟨_, rfl⟩
  obtain ⟨b2, q2⟩ : ∃ b, b = (s.get! 2).toNat := ⟨_, rfl⟩
  obtain ⟨b3, q3⟩ : ∃ b, b = (s.get! 3).toNat := ⟨_, rfl⟩
  rw [← q0, ← q1, ← q2, ← q3]
  by_cases a : b0 < 128
  · refine (size_asc s w _ h0 hs e0 (by omega)).mono ?_
    rintro e w' ⟨rfl, rfl⟩
    exact ⟨ret_int (by rw [szN_of (dec_asc a) (by omega)]; rfl), rfl⟩
  by_cases b : b0 < 194
  · refine (size_bad1 s w _ h0 hs e0 (by omega) (by omega)).mono ?_
    rintro e w' ⟨rfl, rfl⟩
    exact ⟨ret_int (by rw [szN_bad (dec_bad1 (by omega) (by omega))]; rfl), rfl⟩
  by_cases c : 245 ≤ b0
  · refine (size_bad2 s w _ h0 hs e0 (by omega) (by omega)).mono ?_
    rintro e w' ⟨rfl, rfl⟩
    exact ⟨ret_int (by rw [szN_bad (dec_bad2 (by omega) (by omega))]; rfl), rfl⟩
  by_cases d : b0 < 224
  · by_cases n2 : s.size < 2
    · refine (size_short2 s w _ h0 hs e0 (by omega) (by omega) (by omega)).mono ?_
      rintro e w' ⟨rfl, rfl⟩
      exact ⟨ret_int (by rw [szN_bad (dec_2bad (by omega) (by omega) (by omega) (by omega))]; rfl), rfl⟩
    by_cases q1 : b1 < 128
    · refine (size_lo21 s w _ _ h0 (by omega) hs e0 (e1 (by omega)) (by omega) (by omega) (by omega) (by omega)).mono ?_
      rintro e w' ⟨rfl, rfl⟩
      exact ⟨ret_int (by rw [szN_bad (dec_2bad (by omega) (by omega) (by omega) (by omega))]; rfl), rfl⟩
    by_cases q2 : 191 < b1
    · refine (size_hi21 s w _ _ h0 (by omega) hs e0 (e1 (by omega)) (by omega) (by omega) (by omega) (by omega)).mono ?_
      rintro e w' ⟨rfl, rfl⟩
      exact ⟨ret_int (by rw [szN_bad (dec_2bad (by omega) (by omega) (by omega) (by omega))]; rfl), rfl⟩
    · refine (size_two s w _ _ h0 (by omega) hs e0 (e1 (by omega)) (by omega) (by omega) (by omega) (by omega) (by omega)).mono ?_
      rintro e w' ⟨rfl, rfl⟩
      exact ⟨ret_int (by rw [szN_of (dec_2ok (by omega) (by omega) (by omega) (by omega) (by omega)) (by omega)]; rfl), rfl⟩
  by_cases f : b0 < 240
  · by_cases n3 : s.size < 3
    · refine (size_short3 s w _ h0 hs e0 (by omega) (by omega) (by omega)).mono ?_
      rintro e w' ⟨rfl, rfl⟩
      exact ⟨ret_int (by rw [szN_bad (dec_3bad (by omega) (by omega) (by omega) (by omega) (by omega))]; rfl), rfl⟩
    by_cases q1 : b1 < 128
    · refine (size_lo31 s w _ _ h0 (by omega) hs e0 (e1 (by omega)) (by omega) (by omega) (by omega) (by omega)).mono ?_
      rintro e w' ⟨rfl, rfl⟩
      exact ⟨ret_int (by rw [szN_bad (dec_3bad (by omega) (by omega) (by omega) (by omega) (by omega))]; rfl), rfl⟩
    by_cases q2 : 191 < b1
    · refine (size_hi31 s w _ _ h0 (by omega) hs e0 (e1 (by omega)) (by omega) (by omega) (by omega) (by omega)).mono ?_
      rintro e w' ⟨rfl, rfl⟩
      exact ⟨ret_int (by rw [szN_bad (dec_3bad (by omega) (by omega) (by omega) (by omega) (by omega))]; rfl), rfl⟩
    by_cases q3 : b2 < 128
    · refine (size_lo32 s w _ _ _ h0 (by omega) (by omega) hs e0 (e1 (by omega)) (e2 (by omega)) (by omega) (by omega) (by omega) (by omega) (by omega) (by omega)).mono ?_
      rintro e w' ⟨rfl, rfl⟩
      exact ⟨ret_int (by rw [szN_bad (dec_3bad (by omega) (by omega) (by omega) (by omega) (by omega))]; rfl), rfl⟩
    by_cases q4 : 191 < b2
    · refine (size_hi32 s w _ _ _ h0 (by omega) (by omega) hs e0 (e1 (by omega)) (e2 (by omega)) (by omega) (by omega) (by omega) (by omega) (by omega) (by omega)).mono ?_
      rintro e w' ⟨rfl, rfl⟩
      exact ⟨ret_int (by rw [szN_bad (dec_3bad (by omega) (by omega) (by omega) (by omega) (by omega))]; rfl), rfl⟩
    by_cases r1 : b0 % 16 * 4096 + b1 % 64 * 64 + b2 % 64 < 2048
    · refine (size_three_small s w _ _ _ h0 (by omega) (by omega) hs e0 (e1 (by omega)) (e2 (by omega)) (by omega) (by omega) (by omega) (by omega) (by omega) (by omega) (by omega) (by omega)).mono ?_
      rintro e w' ⟨rfl, rfl⟩
      exact ⟨ret_int (by rw [szN_bad (dec_3off (by omega) (by omega) (by omega))]; rfl), rfl⟩
    by_cases r2 : b0 % 16 * 4096 + b1 % 64 * 64 + b2 % 64 < 55296
    · refine (size_three_a s w _ _ _ h0 (by omega) (by omega) hs e0 (e1 (by omega)) (e2 (by omega)) (by omega) (by omega) (by omega) (by omega) (by omega) (by omega) (by omega) (by omega) (by omega)).mono ?_
      rintro e w' ⟨rfl, rfl⟩
      exact ⟨ret_int (by rw [szN_of (dec_3ok (by omega) (by omega) (by omega) (by omega) (by omega) (by omega) (by omega) (by omega) (by omega)) (by omega)]; rfl), rfl⟩
    by_cases r3 : b0 % 16 * 4096 + b1 % 64 * 64 + b2 % 64 ≤ 57343
    · refine (size_three_sur s w _ _ _ h0 (by omega) (by omega) hs e0 (e1 (by omega)) (e2 (by omega)) (by omega) (by omega) (by omega) (by omega) (by omega) (by omega) (by omega) (by omega) (by omega)).mono ?_
      rintro e w' ⟨rfl, rfl⟩
      exact ⟨ret_int (by rw [szN_bad (dec_3off (by omega) (by omega) (by omega))]; rfl), rfl⟩
    · refine (size_three_b s w _ _ _ h0 (by omega) (by omega) hs e0 (e1 (by omega)) (e2 (by omega)) (by omega) (by omega) (by omega) (by omega) (by omega) (by omega) (by omega) (by omega)).mono ?_
      rintro e w' ⟨rfl, rfl⟩
      exact ⟨ret_int (by rw [szN_of (dec_3ok (by omega) (by omega) (by omega) (by omega) (by omega) (by omega) (by omega) (by omega) (by omega)) (by omega)]; rfl), rfl⟩
  by_cases n4 : s.size < 4
  · refine (size_short4 s w _ h0 hs e0 (by omega) (by omega) (by omega)).mono ?_
    rintro e w' ⟨rfl, rfl⟩
    exact ⟨ret_int (by rw [szN_bad (dec_4bad (by omega) (by omega) (by omega) (by omega) (by omega) (by omega))]; rfl), rfl⟩
  by_cases u1 : b1 < 128
  · refine (size_lo41 s w _ _ h0 (by omega) hs e0 (e1 (by omega)) (by omega) (by omega) (by omega) (by omega)).mono ?_
    rintro e w' ⟨rfl, rfl⟩
    exact ⟨ret_int (by rw [szN_bad (dec_4bad (by omega) (by omega) (by omega) (by omega) (by omega) (by omega))]; rfl), rfl⟩
  by_cases v1 : 191 < b1
  · refine (size_hi41 s w _ _ h0 (by omega) hs e0 (e1 (by omega)) (by omega) (by omega) (by omega) (by omega)).mono ?_
    rintro e w' ⟨rfl, rfl⟩
    exact ⟨ret_int (by rw [szN_bad (dec_4bad (by omega) (by omega) (by omega) (by omega) (by omega) (by omega))]; rfl), rfl⟩
  by_cases u2 : b2 < 128
  · refine (size_lo42 s w _ _ _ h0 (by omega) (by omega) hs e0 (e1 (by omega)) (e2 (by omega)) (by omega) (by omega) (by omega) (by omega) (by omega) (by omega)).mono ?_
    rintro e w' ⟨rfl, rfl⟩
    exact ⟨ret_int (by rw [szN_bad (dec_4bad (by omega) (by omega) (by omega) (by omega) (by omega) (by omega))]; rfl), rfl⟩
  by_cases v2 : 191 < b2
  · refine (size_hi42 s w _ _ _ h0 (by omega) (by omega) hs e0 (e1 (by omega)) (e2 (by omega)) (by omega) (by omega) (by omega) (by omega) (by omega) (by omega)).mono ?_
    rintro e w' ⟨rfl, rfl⟩
    exact ⟨ret_int (by rw [szN_bad (dec_4bad (by omega) (by omega) (by omega) (by omega) (by omega) (by omega))]; rfl), rfl⟩
  by_cases u3 : b3 < 128
  · refine (size_lo43 s w _ _ _ _ h0 (by omega) (by omega) (by omega) hs e0 (e1 (by omega)) (e2 (by omega)) (e3 (by omega)) (by omega) (by omega) (by omega) (by omega) (by omega) (by omega) (by omega) (by omega)).mono ?_
    rintro e w' ⟨rfl, rfl⟩
    exact ⟨ret_int (by rw [szN_bad (dec_4bad (by omega) (by omega) (by omega) (by omega) (by omega) (by omega))]; rfl), rfl⟩
  by_cases v3 : 191 < b3
  · refine (size_hi43 s w _ _ _ _ h0 (by omega) (by omega) (by omega) hs e0 (e1 (by omega)) (e2 (by omega)) (e3 (by omega)) (by omega) (by omega) (by omega) (by omega) (by omega) (by omega) (by omega) (by omega)).mono ?_
    rintro e w' ⟨rfl, rfl⟩
    exact ⟨ret_int (by rw [szN_bad (dec_4bad (by omega) (by omega) (by omega) (by omega) (by omega) (by omega))]; rfl), rfl⟩
  by_cases r1 : b0 % 8 * 262144 + b1 % 64 * 4096 + b2 % 64 * 64 + b3 % 64 < 65536
  · refine (size_four_small s w _ _ _ _ h0 (by omega) (by omega) (by omega) hs e0 (e1 (by omega)) (e2 (by omega)) (e3 (by omega)) (by omega) (by omega) (by omega) (by omega) (by omega) (by omega) (by omega) (by omega) (by omega) (by omega)).mono ?_
    rintro e w' ⟨rfl, rfl⟩
    exact ⟨ret_int (by rw [szN_bad (dec_4off (by omega) (by omega) (by omega))]; rfl), rfl⟩
  by_cases r2 : 1114111 < b0 % 8 * 262144 + b1 % 64 * 4096 + b2 % 64 * 64 + b3 % 64
  · refine (size_four_big s w _ _ _ _ h0 (by omega) (by omega) (by omega) hs e0 (e1 (by omega)) (e2 (by omega)) (e3 (by omega)) (by omega) (by omega) (by omega) (by omega) (by omega) (by omega) (by omega) (by omega) (by omega) (by omega)).mono ?_
    rintro e w' ⟨rfl, rfl⟩
    exact ⟨ret_int (by rw [szN_bad (dec_4off (by omega) (by omega) (by omega))]; rfl), rfl⟩
  · refine (size_four s w _ _ _ _ h0 (by omega) (by omega) (by omega) hs e0 (e1 (by omega)) (e2 (by omega)) (e3 (by omega)) (by omega) (by omega) (by omega) (by omega) (by omega) (by omega) (by omega) (by omega) (by omega) (by omega) (by omega)).mono ?_
    rintro e w' ⟨rfl, rfl⟩
    exact ⟨ret_int (by rw [szN_of (dec_4ok (by omega) (by omega) (by omega) (by omega) (by omega) (by omega) (by omega) (by omega) (by omega) (by omega) (by omega)) (by omega)]; rfl), rfl⟩
end Go.Proofs.YtkbinfhclaafhaaGreatDoor
