import Derived.Test.YtkbinfhclaafhaaGreatDoorSize
namespace Go.Proofs.YtkbinfhclaafhaaGreatDoor
open Go.RowKit

theorem szN_of {n b0 b1 b2 b3 a b : Nat} (h : Lib.decodeN n b0 b1 b2 b3 = (a, b)) (hab : ¬ (a = 65533 ∧ b = 1)) : szN n b0 b1 b2 b3 = b := by
  unfold szN; rw [h]; exact if_neg hab
theorem szN_bad {n b0 b1 b2 b3 : Nat} (h : Lib.decodeN n b0 b1 b2 b3 = (65533, 1)) : szN n b0 b1 b2 b3 = 0 := by
  unfold szN; rw [h]; exact if_pos ⟨rfl, rfl⟩

theorem dec_asc {n b0 b1 b2 b3 : Nat} (h : b0 < 128) : Lib.decodeN n b0 b1 b2 b3 = (b0, 1) := by unfold Lib.decodeN; rw [if_pos h]
theorem dec_bad1 {n b0 b1 b2 b3 : Nat} (h0 : 128 ≤ b0) (h1 : b0 < 194) : Lib.decodeN n b0 b1 b2 b3 = (65533, 1) := by
  unfold Lib.decodeN; repeat' split
  all_goals first | (exfalso; omega) | rfl
theorem dec_bad2 {n b0 b1 b2 b3 : Nat} (h0 : 245 ≤ b0) (h1 : b0 < 256) : Lib.decodeN n b0 b1 b2 b3 = (65533, 1) := by
  unfold Lib.decodeN; repeat' split
  all_goals first | (exfalso; omega) | rfl
theorem dec_2bad {n b0 b1 b2 b3 : Nat} (h0 : 194 ≤ b0) (h1 : b0 < 224) (hb : b1 < 256) (h : n < 2 ∨ b1 < 128 ∨ 191 < b1) : Lib.decodeN n b0 b1 b2 b3 = (65533, 1) := by
  unfold Lib.decodeN; repeat' split
  all_goals first | (exfalso; omega) | rfl
theorem dec_2ok {n b0 b1 b2 b3 : Nat} (h0 : 194 ≤ b0) (h1 : b0 < 224) (hn : 2 ≤ n) (h2 : 128 ≤ b1) (h3 : b1 ≤ 191) : Lib.decodeN n b0 b1 b2 b3 = (b0 % 32 * 64 + b1 % 64, 2) := by
  unfold Lib.decodeN; repeat' split
  all_goals first | (exfalso; omega) | rfl
theorem dec_3bad {n b0 b1 b2 b3 : Nat} (h0 : 224 ≤ b0) (h1 : b0 < 240) (hb : b1 < 256) (hb2 : b2 < 256) (h : n < 3 ∨ b1 < 128 ∨ 191 < b1 ∨ b2 < 128 ∨ 191 < b2) : Lib.decodeN n b0 b1 b2 b3 = (65533, 1) := by
  unfold Lib.decodeN; repeat' split
  all_goals first | (exfalso; omega) | rfl
theorem dec_3off {n b0 b1 b2 b3 : Nat} (h0 : 224 ≤ b0) (h1 : b0 < 240) (h : b0 % 16 * 4096 + b1 % 64 * 64 + b2 % 64 < 2048 ∨ (55296 ≤ b0 % 16 * 4096 + b1 % 64 * 64 + b2 % 64 ∧ b0 % 16 * 4096 + b1 % 64 * 64 + b2 % 64 ≤ 57343)) : Lib.decodeN n b0 b1 b2 b3 = (65533, 1) := by
  unfold Lib.decodeN; repeat' split
  all_goals first | (exfalso; omega) | rfl
theorem dec_3ok {n b0 b1 b2 b3 : Nat} (h0 : 224 ≤ b0) (h1 : b0 < 240) (hn : 3 ≤ n) (h2 : 128 ≤ b1) (h3 : b1 ≤ 191) (h4 : 128 ≤ b2) (h5 : b2 ≤ 191) (h6 : 2048 ≤ b0 % 16 * 4096 + b1 % 64 * 64 + b2 % 64)
    (h7 : b0 % 16 * 4096 + b1 % 64 * 64 + b2 % 64 < 55296 ∨ 57343 < b0 % 16 * 4096 + b1 % 64 * 64 + b2 % 64) : Lib.decodeN n b0 b1 b2 b3 = (b0 % 16 * 4096 + b1 % 64 * 64 + b2 % 64, 3) := by
  unfold Lib.decodeN; repeat' split
  all_goals first | (exfalso; omega) | rfl
theorem dec_4bad {n b0 b1 b2 b3 : Nat} (h0 : 240 ≤ b0) (h1 : b0 < 245) (hb : b1 < 256) (hb2 : b2 < 256) (hb3 : b3 < 256) (h : n < 4 ∨ b1 < 128 ∨ 191 < b1 ∨ b2 < 128 ∨ 191 < b2 ∨ b3 < 128 ∨ 191 < b3) : Lib.decodeN n b0 b1 b2 b3 = (65533, 1) := by
  unfold Lib.decodeN; repeat' split
  all_goals first | (exfalso; omega) | rfl
theorem dec_4off {n b0 b1 b2 b3 : Nat} (h0 : 240 ≤ b0) (h1 : b0 < 245) (h : b0 % 8 * 262144 + b1 % 64 * 4096 + b2 % 64 * 64 + b3 % 64 < 65536 ∨ 1114111 < b0 % 8 * 262144 + b1 % 64 * 4096 + b2 % 64 * 64 + b3 % 64) : Lib.decodeN n b0 b1 b2 b3 = (65533, 1) := by
  unfold Lib.decodeN; repeat' split
  all_goals first | (exfalso; omega) | rfl
theorem dec_4ok {n b0 b1 b2 b3 : Nat} (h0 : 240 ≤ b0) (h1 : b0 < 245) (hn : 4 ≤ n) (h2 : 128 ≤ b1) (h3 : b1 ≤ 191) (h4 : 128 ≤ b2) (h5 : b2 ≤ 191) (h8 : 128 ≤ b3) (h9 : b3 ≤ 191) (h6 : 65536 ≤ b0 % 8 * 262144 + b1 % 64 * 4096 + b2 % 64 * 64 + b3 % 64)
    (h7 : b0 % 8 * 262144 + b1 % 64 * 4096 + b2 % 64 * 64 + b3 % 64 ≤ 1114111) : Lib.decodeN n b0 b1 b2 b3 = (b0 % 8 * 262144 + b1 % 64 * 4096 + b2 % 64 * 64 + b3 % 64, 4) := by
  unfold Lib.decodeN; repeat' split
  all_goals first | (exfalso; omega) | rfl

end Go.Proofs.YtkbinfhclaafhaaGreatDoor
