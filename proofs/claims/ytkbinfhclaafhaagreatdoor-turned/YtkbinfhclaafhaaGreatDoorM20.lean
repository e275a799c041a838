import Derived.Test.YtkbinfhclaafhaaGreatDoorM19
import Derived.Test.YtkbinfhclaafhaaGreatDoorM01
import Derived.Lib.Strings
import Derived.Lib.IndexBytes
namespace Go.Proofs.YtkbinfhclaafhaaGreatDoor
open Go.RowKit
theorem szN_of {n b0 b1 b2 b3 a b : Nat} (h : Lib.decodeN n b0 b1 b2 b3 = (a, b)) (hab : ¬ (a = 65533 ∧ b = 1)) : szN n b0 b1 b2 b3 = b := by
 unfold szN; rw [h]; exact if_neg hab
theorem szN_bad {n b0 b1 b2 b3 : Nat} (h : Lib.decodeN n b0 b1 b2 b3 = (65533, 1)) : szN n b0 b1 b2 b3 = 0 := by
 unfold szN; rw [h]; exact if_pos ⟨rfl, rfl⟩
theorem dec_asc {n b0 b1 b2 b3 : Nat} (h : b0 < 128) : Lib.decodeN n b0 b1 b2 b3 = (b0, 1) := by unfold Lib.decodeN; rw [if_pos h]
theorem dec_bad1 {n b0 b1 b2 b3 : Nat} (h0 : 128 ≤ b0) (h1 : b0 < 194) : Lib.decodeN n b0 b1 b2 b3 = (65533, 1) := by
 unfold Lib.decodeN; repeat' split
 all_goals first | (exfalso; omega) | rfl
theorem dec_bad2 {n b0 b1 b2 b3 : Nat} (h0 : 245 ≤ b0) (h1 : b0 < 256) : Lib.decodeN n b0 b1 b2 b3 = (65533, 1) := by
 unfold Lib.decodeN; repeat' split
 all_goals first | (exfalso; omega) | rfl
theorem dec_2bad {n b0 b1 b2 b3 : Nat} (h0 : 194 ≤ b0) (h1 : b0 < 224) (hb : b1 < 256) (h : n < 2 ∨ b1 < 128 ∨ 191 < b1) : Lib.decodeN n b0 b1 b2 b3 = (65533, 1) := by
 unfold Lib.decodeN; repeat' split
 all_goals first | (exfalso; omega) | rfl
theorem dec_2ok {n b0 b1 b2 b3 : Nat} (h0 : 194 ≤ b0) (h1 : b0 < 224) (hn : 2 ≤ n) (h2 : 128 ≤ b1) (h3 : b1 ≤ 191) : Lib.decodeN n b0 b1 b2 b3 = (b0 % 32 * 64 + b1 % 64, 2) := by
 unfold Lib.decodeN; repeat' split
 all_goals first | (exfalso; omega) | rfl
theorem dec_3bad {n b0 b1 b2 b3 : Nat} (h0 : 224 ≤ b0) (h1 : b0 < 240) (hb : b1 < 256) (hb2 : b2 < 256) (h : n < 3 ∨ b1 < 128 ∨ 191 < b1 ∨ b2 < 128 ∨ 191 < b2) : Lib.decodeN n b0 b1 b2 b3 = (65533, 1) := by
 unfold Lib.decodeN; repeat' split
 all_goals first | (exfalso; omega) | rfl
theorem dec_3off {n b0 b1 b2 b3 : Nat} (h0 : 224 ≤ b0) (h1 : b0 < 240) (h : b0 % 16 * 4096 + b1 % 64 * 64 + b2 % 64 < 2048 ∨ (55296 ≤ b0 % 16 * 4096 + b1 % 64 * 64 + b2 % 64 ∧ b0 % 16 * 4096 + b1 % 64 * 64 + b2 % 64 ≤ 57343)) : Lib.decodeN n b0 b1 b2 b3 = (65533, 1) := by
 unfold Lib.decodeN; repeat' split
 all_goals first | (exfalso; omega) | rfl
theorem dec_3ok {n b0 b1 b2 b3 : Nat} (h0 : 224 ≤ b0) (h1 : b0 < 240) (hn : 3 ≤ n) (h2 : 128 ≤ b1) (h3 : b1 ≤ 191) (h4 : 128 ≤ b2) (h5 : b2 ≤ 191) (h6 : 2048 ≤ b0 % 16 * 4096 + b1 % 64 * 64 + b2 % 64)
  (h7 : b0 % 16 * 4096 + b1 % 64 * 64 + b2 % 64 < 55296 ∨ 57343 < b0 % 16 * 4096 + b1 % 64 * 64 + b2 % 64) : Lib.decodeN n b0 b1 b2 b3 = (b0 % 16 * 4096 + b1 % 64 * 64 + b2 % 64, 3) := by
 unfold Lib.decodeN; repeat' split
 all_goals first | (exfalso; omega) | rfl
theorem dec_4bad {n b0 b1 b2 b3 : Nat} (h0 : 240 ≤ b0) (h1 : b0 < 245) (hb : b1 < 256) (hb2 : b2 < 256) (hb3 : b3 < 256) (h : n < 4 ∨ b1 < 128 ∨ 191 < b1 ∨ b2 < 128 ∨ 191 < b2 ∨ b3 < 128 ∨ 191 < b3) : Lib.decodeN n b0 b1 b2 b3 = (65533, 1) := by
 unfold Lib.decodeN; repeat' split
 all_goals first | (exfalso; omega) | rfl
theorem dec_4off {n b0 b1 b2 b3 : Nat} (h0 : 240 ≤ b0) (h1 : b0 < 245) (h : b0 % 8 * 262144 + b1 % 64 * 4096 + b2 % 64 * 64 + b3 % 64 < 65536 ∨ 1114111 < b0 % 8 * 262144 + b1 % 64 * 4096 + b2 % 64 * 64 + b3 % 64) : Lib.decodeN n b0 b1 b2 b3 = (65533, 1) := by
 unfold Lib.decodeN; repeat' split
 all_goals first | (exfalso; omega) | rfl
theorem dec_4ok {n b0 b1 b2 b3 : Nat} (h0 : 240 ≤ b0) (h1 : b0 < 245) (hn : 4 ≤ n) (h2 : 128 ≤ b1) (h3 : b1 ≤ 191) (h4 : 128 ≤ b2) (h5 : b2 ≤ 191) (h8 : 128 ≤ b3) (h9 : b3 ≤ 191) (h6 : 65536 ≤ b0 % 8 * 262144 + b1 % 64 * 4096 + b2 % 64 * 64 + b3 % 64)
  (h7 : b0 % 8 * 262144 + b1 % 64 * 4096 + b2 % 64 * 64 + b3 % 64 ≤ 1114111) : Lib.decodeN n b0 b1 b2 b3 = (b0 % 8 * 262144 + b1 % 64 * 4096 + b2 % 64 * 64 + b3 % 64, 4) := by
 unfold Lib.decodeN; repeat' split
 all_goals first | (exfalso; omega) | rfl
end Go.Proofs.YtkbinfhclaafhaaGreatDoor
namespace Go.Proofs.YtkbinfhclaafhaaGreatDoor
open Go.RowKit
set_option maxRecDepth 100000 in
set_option maxHeartbeats 4000000 in
theorem class_done (r : Int) (w : World) (h : ¬ Between r) :
  Calls Tryz.prog 69 #[.int .i64 r] w fun e w' => e = .returned (.int .i64 (cls r)) ∧ Below w.heap.size w w' := by
 have h' : (1488 ≤ r ∧ r ≤ 1514) ∨ r = 8207 ∨ (1575 ≤ r ∧ r ≤ 1610) ∨ r = 1564 ∨ (48 ≤ r ∧ r ≤ 57) ∨ r = 43 ∨ r = 45 ∨ (1632 ≤ r ∧ r ≤ 1641) ∨ (768 ≤ r ∧ r ≤ 879) ∨ (1611 ≤ r ∧ r ≤ 1618) ∨ r = 173 ∨ r = 8203 ∨ r = 9 ∨ r = 32 ∨ r = 8195 ∨ (8294 ≤ r ∧ r ≤ 8297) := by
  unfold Between at h; omega
 clear h
 obtain ⟨c, hc⟩ : ∃ c, c = cls r := ⟨_, rfl⟩
 rw [← hc]
 have HC : Hid (c = cls r) := hc
 clear hc
 rcases h' with h | h | h | h | h | h | h | h | h | h | h | h | h | h | h | h
 ·obtain ⟨h1, h2⟩ := h
  have e0 : (r == 8207) = false := by simp; omega
  have e1 : (r == 1564) = false := by simp; omega
  have e2 : (r == 43) = false := by simp; omega
  have e3 : (r == 45) = false := by simp; omega
  have e4 : (r == 173) = false := by simp; omega
  have e5 : (r == 8203) = false := by simp; omega
  have e6 : (r == 9) = false := by simp; omega
  have e7 : (r == 32) = false := by simp; omega
  have e8 : (r == 8195) = false := by simp; omega
  go_enter Tryz.func69, Tryz.ntmps69
  go_wp2_with fail
  go_ret
  exact ⟨ret_int (by rw [HC.out]; exact (cls_0 (by omega)).symm), Below.refl _ _⟩
 ·subst h
  go_enter Tryz.func69, Tryz.ntmps69
  go_wp2_with fail
  go_ret
  exact ⟨ret_int (by rw [HC.out]; exact (cls_0 (by omega)).symm), Below.refl _ _⟩
 ·obtain ⟨h1, h2⟩ := h
  have e0 : (r == 8207) = false := by simp; omega
  have e1 : (r == 1564) = false := by simp; omega
  have e2 : (r == 43) = false := by simp; omega
  have e3 : (r == 45) = false := by simp; omega
  have e4 : (r == 173) = false := by simp; omega
  have e5 : (r == 8203) = false := by simp; omega
  have e6 : (r == 9) = false := by simp; omega
  have e7 : (r == 32) = false := by simp; omega
  have e8 : (r == 8195) = false := by simp; omega
  go_enter Tryz.func69, Tryz.ntmps69
  go_wp2_with fail
  go_ret
  exact ⟨ret_int (by rw [HC.out]; exact (cls_1 (by omega)).symm), Below.refl _ _⟩
 ·subst h
  go_enter Tryz.func69, Tryz.ntmps69
  go_wp2_with fail
  go_ret
  exact ⟨ret_int (by rw [HC.out]; exact (cls_1 (by omega)).symm), Below.refl _ _⟩
 ·obtain ⟨h1, h2⟩ := h
  have e0 : (r == 8207) = false := by simp; omega
  have e1 : (r == 1564) = false := by simp; omega
  have e2 : (r == 43) = false := by simp; omega
  have e3 : (r == 45) = false := by simp; omega
  have e4 : (r == 173) = false := by simp; omega
  have e5 : (r == 8203) = false := by simp; omega
  have e6 : (r == 9) = false := by simp; omega
  have e7 : (r == 32) = false := by simp; omega
  have e8 : (r == 8195) = false := by simp; omega
  go_enter Tryz.func69, Tryz.ntmps69
  go_wp2_with fail
  go_ret
  exact ⟨ret_int (by rw [HC.out]; exact (cls_2 (by omega)).symm), Below.refl _ _⟩
 ·subst h
  go_enter Tryz.func69, Tryz.ntmps69
  go_wp2_with fail
  go_ret
  exact ⟨ret_int (by rw [HC.out]; exact (cls_3 (by omega)).symm), Below.refl _ _⟩
 ·subst h
  go_enter Tryz.func69, Tryz.ntmps69
  go_wp2_with fail
  go_ret
  exact ⟨ret_int (by rw [HC.out]; exact (cls_3 (by omega)).symm), Below.refl _ _⟩
 ·obtain ⟨h1, h2⟩ := h
  have e0 : (r == 8207) = false := by simp; omega
  have e1 : (r == 1564) = false := by simp; omega
  have e2 : (r == 43) = false := by simp; omega
  have e3 : (r == 45) = false := by simp; omega
  have e4 : (r == 173) = false := by simp; omega
  have e5 : (r == 8203) = false := by simp; omega
  have e6 : (r == 9) = false := by simp; omega
  have e7 : (r == 32) = false := by simp; omega
  have e8 : (r == 8195) = false := by simp; omega
  go_enter Tryz.func69, Tryz.ntmps69
  go_wp2_with fail
  go_ret
  exact ⟨ret_int (by rw [HC.out]; exact (cls_4 (by omega)).symm), Below.refl _ _⟩
 ·obtain ⟨h1, h2⟩ := h
  have e0 : (r == 8207) = false := by simp; omega
  have e1 : (r == 1564) = false := by simp; omega
  have e2 : (r == 43) = false := by simp; omega
  have e3 : (r == 45) = false := by simp; omega
  have e4 : (r == 173) = false := by simp; omega
  have e5 : (r == 8203) = false := by simp; omega
  have e6 : (r == 9) = false := by simp; omega
  have e7 : (r == 32) = false := by simp; omega
  have e8 : (r == 8195) = false := by simp; omega
  go_enter Tryz.func69, Tryz.ntmps69
  go_wp2_with fail
  go_ret
  exact ⟨ret_int (by rw [HC.out]; exact (cls_5 (by omega)).symm), Below.refl _ _⟩
 ·obtain ⟨h1, h2⟩ := h
  have e0 : (r == 8207) = false := by simp; omega
  have e1 : (r == 1564) = false := by simp; omega
  have e2 : (r == 43) = false := by simp; omega
  have e3 : (r == 45) = false := by simp; omega
  have e4 : (r == 173) = false := by simp; omega
  have e5 : (r == 8203) = false := by simp; omega
  have e6 : (r == 9) = false := by simp; omega
  have e7 : (r == 32) = false := by simp; omega
  have e8 : (r == 8195) = false := by simp; omega
  go_enter Tryz.func69, Tryz.ntmps69
  go_wp2_with fail
  go_ret
  exact ⟨ret_int (by rw [HC.out]; exact (cls_5 (by omega)).symm), Below.refl _ _⟩
 ·subst h
  go_enter Tryz.func69, Tryz.ntmps69
  go_wp2_with fail
  go_ret
  exact ⟨ret_int (by rw [HC.out]; exact (cls_6 (by omega)).symm), Below.refl _ _⟩
 ·subst h
  go_enter Tryz.func69, Tryz.ntmps69
  go_wp2_with fail
  go_ret
  exact ⟨ret_int (by rw [HC.out]; exact (cls_6 (by omega)).symm), Below.refl _ _⟩
 ·subst h
  go_enter Tryz.func69, Tryz.ntmps69
  go_wp2_with fail
  go_ret
  exact ⟨ret_int (by rw [HC.out]; exact (cls_7 (by omega)).symm), Below.refl _ _⟩
 ·subst h
  go_enter Tryz.func69, Tryz.ntmps69
  go_wp2_with fail
  go_ret
  exact ⟨ret_int (by rw [HC.out]; exact (cls_8 (by omega)).symm), Below.refl _ _⟩
 ·subst h
  go_enter Tryz.func69, Tryz.ntmps69
  go_wp2_with fail
  go_ret
  exact ⟨ret_int (by rw [HC.out]; exact (cls_8 (by omega)).symm), Below.refl _ _⟩
 ·obtain ⟨h1, h2⟩ := h
  have e0 : (r == 8207) = false := by simp; omega
  have e1 : (r == 1564) = false := by simp; omega
  have e2 : (r == 43) = false := by simp; omega
  have e3 : (r == 45) = false := by simp; omega
  have e4 : (r == 173) = false := by simp; omega
  have e5 : (r == 8203) = false := by simp; omega
  have e6 : (r == 9) = false := by simp; omega
  have e7 : (r == 32) = false := by simp; omega
  have e8 : (r == 8195) = false := by simp; omega
  go_enter Tryz.func69, Tryz.ntmps69
  go_wp2_with fail
  go_ret
  exact ⟨ret_int (by rw [HC.out]; exact (cls_9 (by omega)).symm), Below.refl _ _⟩
end Go.Proofs.YtkbinfhclaafhaaGreatDoor
namespace Go.Proofs.YtkbinfhclaafhaaGreatDoor
open Go.RowKit
set_option maxRecDepth 100000 in
set_option maxHeartbeats 8000000 in
theorem class_between (r : Int) (w : World) (h : Between r) :
  Calls Tryz.prog 69 #[.int .i64 r] w fun e w' => e = .returned (.int .i64 (cls r)) ∧ Below w.heap.size w w' := by
 have h' : (r < 48 ∧ r ≠ 9 ∧ r ≠ 32 ∧ r ≠ 43 ∧ r ≠ 45) ∨ (57 < r ∧ r < 768 ∧ r ≠ 173) ∨ (879 < r ∧ r < 1488) ∨ (1514 < r ∧ r < 1575 ∧ r ≠ 1564) ∨ (1618 < r ∧ r < 1632) ∨ (1641 < r ∧ r < 8294 ∧ r ≠ 8195 ∧ r ≠ 8203 ∧ r ≠ 8207) ∨ 8297 < r := by
  unfold Between at h; omega
 have e1 : (r == 8207) = false := by unfold Between at h; simp; omega
 have e2 : (r == 1564) = false := by unfold Between at h; simp; omega
 have e3 : (r == 43) = false := by unfold Between at h; simp; omega
 have e4 : (r == 45) = false := by unfold Between at h; simp; omega
 have e5 : (r == 173) = false := by unfold Between at h; simp; omega
 have e6 : (r == 8203) = false := by unfold Between at h; simp; omega
 have e7 : (r == 9) = false := by unfold Between at h; simp; omega
 have e8 : (r == 32) = false := by unfold Between at h; simp; omega
 have e9 : (r == 8195) = false := by unfold Between at h; simp; omega
 have HB : Hid (cls r = _) := cls_between h
 clear h
 obtain ⟨c, hc⟩ : ∃ c, c = cls r := ⟨_, rfl⟩
 rw [← hc]
 rw [← hc] at HB
 clear hc
 rcases h' with h | h | h | h | h | h | h
 all_goals
  go_enter Tryz.func69, Tryz.ntmps69
  go_wp2_with fail
  refine (among_row r [35, 36, 37, 8364] w.heap.size 0 4 4 _ rfl (by omega) (intsAt_new _ _ _ _ _ rfl rfl)).mono ?_
  rintro e wA ⟨rfl, rfl⟩
  generalize hb1 : amongB r [35, 36, 37, 8364] = b1 at HB ⊢
  go_wp2_with fail
  refine (among_row r [44, 46, 47, 58] (w.heap.size + 1) 0 4 4 _ rfl (by omega) (intsAt_new _ _ _ _ _ (by simp) rfl)).mono ?_
  rintro e wB ⟨rfl, rfl⟩
  generalize hb2 : amongB r [44, 46, 47, 58] = b2 at HB ⊢
  go_wp2_with fail
  refine (signs_any _ _ (by decide)).mono ?_
  rintro e wC ⟨v, rfl, hown, hbC⟩
  have hsl := SlI.of_owns hown
  clear hown
  go_wp2_with fail
  refine (among_any r _ v _ (by decide) hsl).mono ?_
  rintro e wD ⟨rfl, rfl⟩
  clear hsl
  generalize hb3 : amongB r (bytesI { data := #[33, 34, 38, 39, 40, 41, 42, 59, 60, 61, 62, 63, 64, 91, 92, 93, 94, 95, 96, 123, 124, 125, 126] }) = b3 at HB ⊢
  go_wp2_with fail
  refine (among_row r [9001, 9002, 12296, 12297] _ 0 4 4 _ rfl (by omega) (intsAt_new _ _ _ _ _ rfl rfl)).mono ?_
  rintro e wE ⟨rfl, rfl⟩
  generalize hb4 : amongB r [9001, 9002, 12296, 12297] = b4 at HB ⊢
  clear hb1 hb2 hb3 hb4
  have hBe : Below w.heap.size w _ := ((((Below.refl _ _).alloc (Nat.le_refl _) _).alloc (by simp) _).trans (hbC.mono (by simp; omega))).alloc (by have := hbC.size; simp at this; omega) (.cells #[.int .i64 9001, .int .i64 9002, .int .i64 12296, .int .i64 12297] 3)
  go_wp2_with fail
  all_goals
   go_ret
   refine ⟨ret_int ?_, hBe⟩
   rw [HB.out]
   clear hBe hbC HB
   simp_all
end Go.Proofs.YtkbinfhclaafhaaGreatDoor
namespace Go.Proofs.YtkbinfhclaafhaaGreatDoor
open Go.RowKit
theorem class_any (r : Int) (w : World) :
  Calls Tryz.prog 69 #[.int .i64 r] w fun e w' => e = .returned (.int .i64 (cls r)) ∧ Below w.heap.size w w' := by
 by_cases h : Between r
 ·exact class_between r w h
 ·exact class_done r w h
def runeAt (s : ByteArray) (p : Nat) : Int := ((Utf8.decode s p).1 : Int)
def szAt (s : ByteArray) (p : Nat) : Nat := szN (s.size - p) (s.get! p).toNat (s.get! (p + 1)).toNat (s.get! (p + 2)).toNat (s.get! (p + 3)).toNat
def runesFrom (s : ByteArray) : Nat → Nat → Option (List Int)
 | 0, _ => some []
 | f + 1, p => if p < s.size then (if szAt s p = 0 then none else (runesFrom s f (p + szAt s p)).map (runeAt s p :: ·)) else some []
def runesOf (s : ByteArray) : Option (List Int) := runesFrom s s.size 0
theorem extract_get (s : ByteArray) (p k : Nat) (h : p + k < s.size) : (s.extract p s.size).get! k = s.get! (p + k) := by
 have h' : k < (s.extract p s.size).size := by simp [ByteArray.size_extract]; omega
 rw [get_eq _ _ h', get_eq _ _ h]
 simp [ByteArray.getElem_extract]
theorem size_extract_end (s : ByteArray) (p : Nat) : (s.extract p s.size).size = s.size - p := by simp [ByteArray.size_extract]
theorem szN_cut (n b0 b1 b2 b3 c1 c2 c3 : Nat) (h1 : 1 < n → b1 = c1) (h2 : 2 < n → b2 = c2) (h3 : 3 < n → b3 = c3) : szN n b0 b1 b2 b3 = szN n b0 c1 c2 c3 := by
 have : Lib.decodeN n b0 b1 b2 b3 = Lib.decodeN n b0 c1 c2 c3 := by
  unfold Lib.decodeN
  by_cases n1 : 1 < n
  ·rw [h1 n1]
   by_cases n2 : 2 < n
   ·rw [h2 n2]
    by_cases n3 : 3 < n
    ·rw [h3 n3]
    ·simp [n3]
   ·have n3 : ¬ 3 < n := by omega
    simp [n2]
  ·simp [n1]
 unfold szN
 rw [this]
theorem sz_extract (s : ByteArray) (p : Nat) (h : p < s.size) : sz (s.extract p s.size) = szAt s p := by
 unfold sz szAt
 rw [size_extract_end, extract_get s p 0 (by omega)]
 refine szN_cut _ _ _ _ _ _ _ _ (fun h => ?_) (fun h => ?_) (fun h => ?_)
 ·rw [extract_get s p 1 (by omega)]
 ·rw [extract_get s p 2 (by omega)]
 ·rw [extract_get s p 3 (by omega)]
theorem sz_cases (s : ByteArray) (p : Nat) (_h : p < s.size) (h0 : szAt s p ≠ 0) :
  (szAt s p = 1 ∧ (s.get! p).toNat < 128 ∧ runeAt s p = ((s.get! p).toNat : Int)) ∨
  (szAt s p = 2 ∧ p + 2 ≤ s.size ∧ 194 ≤ (s.get! p).toNat ∧ (s.get! p).toNat < 224 ∧ 128 ≤ (s.get! (p + 1)).toNat ∧ (s.get! (p + 1)).toNat ≤ 191 ∧ runeAt s p = 64 * (((s.get! p).toNat : Int) % 32) + ((s.get! (p + 1)).toNat : Int) - 128) ∨
  (szAt s p = 3 ∧ p + 3 ≤ s.size ∧ 224 ≤ (s.get! p).toNat ∧ (s.get! p).toNat < 240 ∧ 128 ≤ (s.get! (p + 1)).toNat ∧ (s.get! (p + 1)).toNat ≤ 191 ∧ 128 ≤ (s.get! (p + 2)).toNat ∧ (s.get! (p + 2)).toNat ≤ 191 ∧
   runeAt s p = 64 * (64 * (((s.get! p).toNat : Int) % 16) + ((s.get! (p + 1)).toNat : Int) - 128) + ((s.get! (p + 2)).toNat : Int) - 128) ∨
  (szAt s p = 4 ∧ p + 4 ≤ s.size ∧ 240 ≤ (s.get! p).toNat ∧ (s.get! p).toNat < 245 ∧ 128 ≤ (s.get! (p + 1)).toNat ∧ (s.get! (p + 1)).toNat ≤ 191 ∧ 128 ≤ (s.get! (p + 2)).toNat ∧ (s.get! (p + 2)).toNat ≤ 191 ∧ 128 ≤ (s.get! (p + 3)).toNat ∧ (s.get! (p + 3)).toNat ≤ 191 ∧
   runeAt s p = 64 * (64 * (64 * (((s.get! p).toNat : Int) % 8) + ((s.get! (p + 1)).toNat : Int) - 128) + ((s.get! (p + 2)).toNat : Int) - 128) + ((s.get! (p + 3)).toNat : Int) - 128) := by
 unfold runeAt
 rw [Lib.decode_at]
 unfold szAt at h0 ⊢
 have l0 := (s.get! p).toNat_lt
 have l1 := (s.get! (p + 1)).toNat_lt
 have l2 := (s.get! (p + 2)).toNat_lt
 have l3 := (s.get! (p + 3)).toNat_lt
 generalize (s.get! p).toNat = b0 at *
 generalize (s.get! (p + 1)).toNat = b1 at *
 generalize (s.get! (p + 2)).toNat = b2 at *
 generalize (s.get! (p + 3)).toNat = b3 at *
 obtain ⟨n, hn⟩ : ∃ n, n = s.size - p := ⟨_, rfl⟩
 rw [← hn] at h0 ⊢
 by_cases a : b0 < 128
 ·left; rw [szN_of (dec_asc a) (by omega), dec_asc a]; exact ⟨rfl, a, rfl⟩
 by_cases b : b0 < 194
 ·exact absurd (szN_bad (dec_bad1 (by omega) b)) h0
 by_cases c : 245 ≤ b0
 ·exact absurd (szN_bad (dec_bad2 c (by omega))) h0
 by_cases d : b0 < 224
 ·by_cases e : n < 2 ∨ b1 < 128 ∨ 191 < b1
  ·exact absurd (szN_bad (dec_2bad (by omega) d (by omega) e)) h0
  ·have hd := dec_2ok (n := n) (b0 := b0) (b1 := b1) (b2 := b2) (b3 := b3) (by omega) d (by omega) (by omega) (by omega)
   right; left; rw [szN_of hd (by omega), hd]
   exact ⟨rfl, by omega, by omega, by omega, by omega, by omega, by omega⟩
 by_cases f : b0 < 240
 ·by_cases e : n < 3 ∨ b1 < 128 ∨ 191 < b1 ∨ b2 < 128 ∨ 191 < b2
  ·exact absurd (szN_bad (dec_3bad (by omega) f (by omega) (by omega) e)) h0
  ·by_cases g : b0 % 16 * 4096 + b1 % 64 * 64 + b2 % 64 < 2048 ∨ (55296 ≤ b0 % 16 * 4096 + b1 % 64 * 64 + b2 % 64 ∧ b0 % 16 * 4096 + b1 % 64 * 64 + b2 % 64 ≤ 57343)
   ·exact absurd (szN_bad (dec_3off (by omega) f g)) h0
   ·have hd := dec_3ok (n := n) (b0 := b0) (b1 := b1) (b2 := b2) (b3 := b3) (by omega) f (by omega) (by omega) (by omega) (by omega) (by omega) (by omega) (by omega)
    right; right; left; rw [szN_of hd (by omega), hd]
    exact ⟨rfl, by omega, by omega, by omega, by omega, by omega, by omega, by omega, by omega⟩
 by_cases e : n < 4 ∨ b1 < 128 ∨ 191 < b1 ∨ b2 < 128 ∨ 191 < b2 ∨ b3 < 128 ∨ 191 < b3
 ·exact absurd (szN_bad (dec_4bad (by omega) (by omega) (by omega) (by omega) (by omega) e)) h0
 ·by_cases g : b0 % 8 * 262144 + b1 % 64 * 4096 + b2 % 64 * 64 + b3 % 64 < 65536 ∨ 1114111 < b0 % 8 * 262144 + b1 % 64 * 4096 + b2 % 64 * 64 + b3 % 64
  ·exact absurd (szN_bad (dec_4off (by omega) (by omega) g)) h0
  ·have hd := dec_4ok (n := n) (b0 := b0) (b1 := b1) (b2 := b2) (b3 := b3) (by omega) (by omega) (by omega) (by omega) (by omega) (by omega) (by omega) (by omega) (by omega) (by omega) (by omega)
   right; right; right; rw [szN_of hd (by omega), hd]
   exact ⟨rfl, by omega, by omega, by omega, by omega, by omega, by omega, by omega, by omega, by omega, by omega⟩
end Go.Proofs.YtkbinfhclaafhaaGreatDoor
namespace Go.Proofs.YtkbinfhclaafhaaGreatDoor
open Go.RowKit
set_option maxRecDepth 100000 in
set_option maxHeartbeats 2000000 in
theorem size_short3 (s : ByteArray) (w : World) (c0 : UInt8) (h0 : 0 < s.size) (_hs : s.size ≤ 10000) (e0 : s[0]'h0 = c0) (_p0 : (224 : Int) ≤ (c0.toNat : Int)) (_p1 : (c0.toNat : Int) < 240) (_p2 : (s.size : Int) < 3) :
  Calls Tryz.prog 112 #[.string s] w fun e w' => e = .returned (.int .i64 0) ∧ w' = w := by
 go_enter Tryz.func112, Tryz.ntmps112
 go_wp2
 go_ret
 exact ⟨rfl, rfl⟩
set_option maxRecDepth 100000 in
set_option maxHeartbeats 2000000 in
theorem size_lo31 (s : ByteArray) (w : World) (c0 c1 : UInt8) (h0 : 0 < s.size) (h1 : 1 < s.size) (_hs : s.size ≤ 10000) (e0 : s[0]'h0 = c0) (e1 : s[1]'h1 = c1) (_p0 : (224 : Int) ≤ (c0.toNat : Int)) (_p1 : (c0.toNat : Int) < 240) (_p2 : (3 : Int) ≤ (s.size : Int)) (_p3 : (c1.toNat : Int) < 128) :
  Calls Tryz.prog 112 #[.string s] w fun e w' => e = .returned (.int .i64 0) ∧ w' = w := by
 have ha : bits .and .i64 (c0.toNat : Int) 15 = ((c0.toNat % 16 : Nat) : Int) := and15 ⟨c0.toNat, c0.toNat_lt⟩
 go_enter Tryz.func112, Tryz.ntmps112
 go_wp2
 refine wp_loop_rounds 1 ?_
 rw [rounds_succ]
 go_wp2
 go_ret
 exact ⟨rfl, rfl⟩
set_option maxRecDepth 100000 in
set_option maxHeartbeats 2000000 in
theorem size_hi31 (s : ByteArray) (w : World) (c0 c1 : UInt8) (h0 : 0 < s.size) (h1 : 1 < s.size) (_hs : s.size ≤ 10000) (e0 : s[0]'h0 = c0) (e1 : s[1]'h1 = c1) (_p0 : (224 : Int) ≤ (c0.toNat : Int)) (_p1 : (c0.toNat : Int) < 240) (_p2 : (3 : Int) ≤ (s.size : Int)) (_p3 : (191 : Int) < (c1.toNat : Int)) :
  Calls Tryz.prog 112 #[.string s] w fun e w' => e = .returned (.int .i64 0) ∧ w' = w := by
 have ha : bits .and .i64 (c0.toNat : Int) 15 = ((c0.toNat % 16 : Nat) : Int) := and15 ⟨c0.toNat, c0.toNat_lt⟩
 go_enter Tryz.func112, Tryz.ntmps112
 go_wp2
 refine wp_loop_rounds 1 ?_
 rw [rounds_succ]
 go_wp2
 go_ret
 exact ⟨rfl, rfl⟩
set_option maxRecDepth 100000 in
set_option maxHeartbeats 2000000 in
theorem size_lo32 (s : ByteArray) (w : World) (c0 c1 c2 : UInt8) (h0 : 0 < s.size) (h1 : 1 < s.size) (h2 : 2 < s.size) (_hs : s.size ≤ 10000) (e0 : s[0]'h0 = c0) (e1 : s[1]'h1 = c1) (e2 : s[2]'h2 = c2) (_p0 : (224 : Int) ≤ (c0.toNat : Int)) (_p1 : (c0.toNat : Int) < 240) (_p2 : (3 : Int) ≤ (s.size : Int)) (_p3 : (128 : Int) ≤ (c1.toNat : Int)) (_p4 : (c1.toNat : Int) ≤ 191) (_p5 : (c2.toNat : Int) < 128) :
  Calls Tryz.prog 112 #[.string s] w fun e w' => e = .returned (.int .i64 0) ∧ w' = w := by
 have ha : bits .and .i64 (c0.toNat : Int) 15 = ((c0.toNat % 16 : Nat) : Int) := and15 ⟨c0.toNat, c0.toNat_lt⟩
 go_enter Tryz.func112, Tryz.ntmps112
 go_wp2
 refine wp_loop_rounds 2 ?_
 rw [rounds_succ]
 go_wp2
 rw [rounds_succ]
 go_wp2
 go_ret
 exact ⟨rfl, rfl⟩
set_option maxRecDepth 100000 in
set_option maxHeartbeats 2000000 in
theorem size_hi32 (s : ByteArray) (w : World) (c0 c1 c2 : UInt8) (h0 : 0 < s.size) (h1 : 1 < s.size) (h2 : 2 < s.size) (_hs : s.size ≤ 10000) (e0 : s[0]'h0 = c0) (e1 : s[1]'h1 = c1) (e2 : s[2]'h2 = c2) (_p0 : (224 : Int) ≤ (c0.toNat : Int)) (_p1 : (c0.toNat : Int) < 240) (_p2 : (3 : Int) ≤ (s.size : Int)) (_p3 : (128 : Int) ≤ (c1.toNat : Int)) (_p4 : (c1.toNat : Int) ≤ 191) (_p5 : (191 : Int) < (c2.toNat : Int)) :
  Calls Tryz.prog 112 #[.string s] w fun e w' => e = .returned (.int .i64 0) ∧ w' = w := by
 have ha : bits .and .i64 (c0.toNat : Int) 15 = ((c0.toNat % 16 : Nat) : Int) := and15 ⟨c0.toNat, c0.toNat_lt⟩
 go_enter Tryz.func112, Tryz.ntmps112
 go_wp2
 refine wp_loop_rounds 2 ?_
 rw [rounds_succ]
 go_wp2
 rw [rounds_succ]
 go_wp2
 go_ret
 exact ⟨rfl, rfl⟩
set_option maxRecDepth 100000 in
set_option maxHeartbeats 2000000 in
theorem size_three_small (s : ByteArray) (w : World) (c0 c1 c2 : UInt8) (h0 : 0 < s.size) (h1 : 1 < s.size) (h2 : 2 < s.size) (_hs : s.size ≤ 10000) (e0 : s[0]'h0 = c0) (e1 : s[1]'h1 = c1) (e2 : s[2]'h2 = c2) (_p0 : (224 : Int) ≤ (c0.toNat : Int)) (_p1 : (c0.toNat : Int) < 240) (_p2 : (3 : Int) ≤ (s.size : Int)) (_p3 : (128 : Int) ≤ (c1.toNat : Int)) (_p4 : (c1.toNat : Int) ≤ 191) (_p5 : (128 : Int) ≤ (c2.toNat : Int)) (_p6 : (c2.toNat : Int) ≤ 191) (_p7 : 64 * (64 * ((c0.toNat : Int) % 16) + (c1.toNat : Int) - 128) + (c2.toNat : Int) - 128 < 2048) :
  Calls Tryz.prog 112 #[.string s] w fun e w' => e = .returned (.int .i64 0) ∧ w' = w := by
 have ha : bits .and .i64 (c0.toNat : Int) 15 = ((c0.toNat % 16 : Nat) : Int) := and15 ⟨c0.toNat, c0.toNat_lt⟩
 go_enter Tryz.func112, Tryz.ntmps112
 go_wp2
 refine wp_loop_rounds 3 ?_
 rw [rounds_succ]
 go_wp2
 rw [rounds_succ]
 go_wp2
 rw [rounds_succ]
 go_wp2
 go_ret
 exact ⟨rfl, rfl⟩
set_option maxRecDepth 100000 in
set_option maxHeartbeats 2000000 in
theorem size_three_sur (s : ByteArray) (w : World) (c0 c1 c2 : UInt8) (h0 : 0 < s.size) (h1 : 1 < s.size) (h2 : 2 < s.size) (_hs : s.size ≤ 10000) (e0 : s[0]'h0 = c0) (e1 : s[1]'h1 = c1) (e2 : s[2]'h2 = c2) (_p0 : (224 : Int) ≤ (c0.toNat : Int)) (_p1 : (c0.toNat : Int) < 240) (_p2 : (3 : Int) ≤ (s.size : Int)) (_p3 : (128 : Int) ≤ (c1.toNat : Int)) (_p4 : (c1.toNat : Int) ≤ 191) (_p5 : (128 : Int) ≤ (c2.toNat : Int)) (_p6 : (c2.toNat : Int) ≤ 191) (_p7 : (55296 : Int) ≤ 64 * (64 * ((c0.toNat : Int) % 16) + (c1.toNat : Int) - 128) + (c2.toNat : Int) - 128) (_p8 : 64 * (64 * ((c0.toNat : Int) % 16) + (c1.toNat : Int) - 128) + (c2.toNat : Int) - 128 ≤ 57343) :
  Calls Tryz.prog 112 #[.string s] w fun e w' => e = .returned (.int .i64 0) ∧ w' = w := by
 have ha : bits .and .i64 (c0.toNat : Int) 15 = ((c0.toNat % 16 : Nat) : Int) := and15 ⟨c0.toNat, c0.toNat_lt⟩
 go_enter Tryz.func112, Tryz.ntmps112
 go_wp2
 refine wp_loop_rounds 3 ?_
 rw [rounds_succ]
 go_wp2
 rw [rounds_succ]
 go_wp2
 rw [rounds_succ]
 go_wp2
 go_ret
 exact ⟨rfl, rfl⟩
set_option maxRecDepth 100000 in
set_option maxHeartbeats 2000000 in
theorem size_three_a (s : ByteArray) (w : World) (c0 c1 c2 : UInt8) (h0 : 0 < s.size) (h1 : 1 < s.size) (h2 : 2 < s.size) (_hs : s.size ≤ 10000) (e0 : s[0]'h0 = c0) (e1 : s[1]'h1 = c1) (e2 : s[2]'h2 = c2) (_p0 : (224 : Int) ≤ (c0.toNat : Int)) (_p1 : (c0.toNat : Int) < 240) (_p2 : (3 : Int) ≤ (s.size : Int)) (_p3 : (128 : Int) ≤ (c1.toNat : Int)) (_p4 : (c1.toNat : Int) ≤ 191) (_p5 : (128 : Int) ≤ (c2.toNat : Int)) (_p6 : (c2.toNat : Int) ≤ 191) (_p7 : (2048 : Int) ≤ 64 * (64 * ((c0.toNat : Int) % 16) + (c1.toNat : Int) - 128) + (c2.toNat : Int) - 128) (_p8 : 64 * (64 * ((c0.toNat : Int) % 16) + (c1.toNat : Int) - 128) + (c2.toNat : Int) - 128 < 55296) :
  Calls Tryz.prog 112 #[.string s] w fun e w' => e = .returned (.int .i64 3) ∧ w' = w := by
 have ha : bits .and .i64 (c0.toNat : Int) 15 = ((c0.toNat % 16 : Nat) : Int) := and15 ⟨c0.toNat, c0.toNat_lt⟩
 go_enter Tryz.func112, Tryz.ntmps112
 go_wp2
 refine wp_loop_rounds 3 ?_
 rw [rounds_succ]
 go_wp2
 rw [rounds_succ]
 go_wp2
 rw [rounds_succ]
 go_wp2
 go_ret
 exact ⟨rfl, rfl⟩
set_option maxRecDepth 100000 in
set_option maxHeartbeats 2000000 in
theorem size_three_b (s : ByteArray) (w : World) (c0 c1 c2 : UInt8) (h0 : 0 < s.size) (h1 : 1 < s.size) (h2 : 2 < s.size) (_hs : s.size ≤ 10000) (e0 : s[0]'h0 = c0) (e1 : s[1]'h1 = c1) (e2 : s[2]'h2 = c2) (_p0 : (224 : Int) ≤ (c0.toNat : Int)) (_p1 : (c0.toNat : Int) < 240) (_p2 : (3 : Int) ≤ (s.size : Int)) (_p3 : (128 : Int) ≤ (c1.toNat : Int)) (_p4 : (c1.toNat : Int) ≤ 191) (_p5 : (128 : Int) ≤ (c2.toNat : Int)) (_p6 : (c2.toNat : Int) ≤ 191) (_p7 : (57343 : Int) < 64 * (64 * ((c0.toNat : Int) % 16) + (c1.toNat : Int) - 128) + (c2.toNat : Int) - 128) :
  Calls Tryz.prog 112 #[.string s] w fun e w' => e = .returned (.int .i64 3) ∧ w' = w := by
 have ha : bits .and .i64 (c0.toNat : Int) 15 = ((c0.toNat % 16 : Nat) : Int) := and15 ⟨c0.toNat, c0.toNat_lt⟩
 go_enter Tryz.func112, Tryz.ntmps112
 go_wp2
 refine wp_loop_rounds 3 ?_
 rw [rounds_succ]
 go_wp2
 rw [rounds_succ]
 go_wp2
 rw [rounds_succ]
 go_wp2
 go_ret
 exact ⟨rfl, rfl⟩
end Go.Proofs.YtkbinfhclaafhaaGreatDoor
namespace Go.Proofs.YtkbinfhclaafhaaGreatDoor
open Go.RowKit
set_option maxRecDepth 100000 in
set_option maxHeartbeats 2000000 in
theorem size_short4 (s : ByteArray) (w : World) (c0 : UInt8) (h0 : 0 < s.size) (_hs : s.size ≤ 10000) (e0 : s[0]'h0 = c0) (_p0 : (240 : Int) ≤ (c0.toNat : Int)) (_p1 : (c0.toNat : Int) < 245) (_p2 : (s.size : Int) < 4) :
  Calls Tryz.prog 112 #[.string s] w fun e w' => e = .returned (.int .i64 0) ∧ w' = w := by
 go_enter Tryz.func112, Tryz.ntmps112
 go_wp2
 go_ret
 exact ⟨rfl, rfl⟩
set_option maxRecDepth 100000 in
set_option maxHeartbeats 2000000 in
theorem size_lo41 (s : ByteArray) (w : World) (c0 c1 : UInt8) (h0 : 0 < s.size) (h1 : 1 < s.size) (_hs : s.size ≤ 10000) (e0 : s[0]'h0 = c0) (e1 : s[1]'h1 = c1) (_p0 : (240 : Int) ≤ (c0.toNat : Int)) (_p1 : (c0.toNat : Int) < 245) (_p2 : (4 : Int) ≤ (s.size : Int)) (_p3 : (c1.toNat : Int) < 128) :
  Calls Tryz.prog 112 #[.string s] w fun e w' => e = .returned (.int .i64 0) ∧ w' = w := by
 have ha : bits .and .i64 (c0.toNat : Int) 7 = ((c0.toNat % 8 : Nat) : Int) := and7i ⟨c0.toNat, c0.toNat_lt⟩
 go_enter Tryz.func112, Tryz.ntmps112
 go_wp2
 refine wp_loop_rounds 1 ?_
 rw [rounds_succ]
 go_wp2
 go_ret
 exact ⟨rfl, rfl⟩
set_option maxRecDepth 100000 in
set_option maxHeartbeats 2000000 in
theorem size_hi41 (s : ByteArray) (w : World) (c0 c1 : UInt8) (h0 : 0 < s.size) (h1 : 1 < s.size) (_hs : s.size ≤ 10000) (e0 : s[0]'h0 = c0) (e1 : s[1]'h1 = c1) (_p0 : (240 : Int) ≤ (c0.toNat : Int)) (_p1 : (c0.toNat : Int) < 245) (_p2 : (4 : Int) ≤ (s.size : Int)) (_p3 : (191 : Int) < (c1.toNat : Int)) :
  Calls Tryz.prog 112 #[.string s] w fun e w' => e = .returned (.int .i64 0) ∧ w' = w := by
 have ha : bits .and .i64 (c0.toNat : Int) 7 = ((c0.toNat % 8 : Nat) : Int) := and7i ⟨c0.toNat, c0.toNat_lt⟩
 go_enter Tryz.func112, Tryz.ntmps112
 go_wp2
 refine wp_loop_rounds 1 ?_
 rw [rounds_succ]
 go_wp2
 go_ret
 exact ⟨rfl, rfl⟩
set_option maxRecDepth 100000 in
set_option maxHeartbeats 2000000 in
theorem size_lo42 (s : ByteArray) (w : World) (c0 c1 c2 : UInt8) (h0 : 0 < s.size) (h1 : 1 < s.size) (h2 : 2 < s.size) (_hs : s.size ≤ 10000) (e0 : s[0]'h0 = c0) (e1 : s[1]'h1 = c1) (e2 : s[2]'h2 = c2) (_p0 : (240 : Int) ≤ (c0.toNat : Int)) (_p1 : (c0.toNat : Int) < 245) (_p2 : (4 : Int) ≤ (s.size : Int)) (_p3 : (128 : Int) ≤ (c1.toNat : Int)) (_p4 : (c1.toNat : Int) ≤ 191) (_p5 : (c2.toNat : Int) < 128) :
  Calls Tryz.prog 112 #[.string s] w fun e w' => e = .returned (.int .i64 0) ∧ w' = w := by
 have ha : bits .and .i64 (c0.toNat : Int) 7 = ((c0.toNat % 8 : Nat) : Int) := and7i ⟨c0.toNat, c0.toNat_lt⟩
 go_enter Tryz.func112, Tryz.ntmps112
 go_wp2
 refine wp_loop_rounds 2 ?_
 rw [rounds_succ]
 go_wp2
 rw [rounds_succ]
 go_wp2
 go_ret
 exact ⟨rfl, rfl⟩
set_option maxRecDepth 100000 in
set_option maxHeartbeats 2000000 in
theorem size_hi42 (s : ByteArray) (w : World) (c0 c1 c2 : UInt8) (h0 : 0 < s.size) (h1 : 1 < s.size) (h2 : 2 < s.size) (_hs : s.size ≤ 10000) (e0 : s[0]'h0 = c0) (e1 : s[1]'h1 = c1) (e2 : s[2]'h2 = c2) (_p0 : (240 : Int) ≤ (c0.toNat : Int)) (_p1 : (c0.toNat : Int) < 245) (_p2 : (4 : Int) ≤ (s.size : Int)) (_p3 : (128 : Int) ≤ (c1.toNat : Int)) (_p4 : (c1.toNat : Int) ≤ 191) (_p5 : (191 : Int) < (c2.toNat : Int)) :
  Calls Tryz.prog 112 #[.string s] w fun e w' => e = .returned (.int .i64 0) ∧ w' = w := by
 have ha : bits .and .i64 (c0.toNat : Int) 7 = ((c0.toNat % 8 : Nat) : Int) := and7i ⟨c0.toNat, c0.toNat_lt⟩
 go_enter Tryz.func112, Tryz.ntmps112
 go_wp2
 refine wp_loop_rounds 2 ?_
 rw [rounds_succ]
 go_wp2
 rw [rounds_succ]
 go_wp2
 go_ret
 exact ⟨rfl, rfl⟩
set_option maxRecDepth 100000 in
set_option maxHeartbeats 2000000 in
theorem size_lo43 (s : ByteArray) (w : World) (c0 c1 c2 c3 : UInt8) (h0 : 0 < s.size) (h1 : 1 < s.size) (h2 : 2 < s.size) (h3 : 3 < s.size) (_hs : s.size ≤ 10000) (e0 : s[0]'h0 = c0) (e1 : s[1]'h1 = c1) (e2 : s[2]'h2 = c2) (e3 : s[3]'h3 = c3) (_p0 : (240 : Int) ≤ (c0.toNat : Int)) (_p1 : (c0.toNat : Int) < 245) (_p2 : (4 : Int) ≤ (s.size : Int)) (_p3 : (128 : Int) ≤ (c1.toNat : Int)) (_p4 : (c1.toNat : Int) ≤ 191) (_p5 : (128 : Int) ≤ (c2.toNat : Int)) (_p6 : (c2.toNat : Int) ≤ 191) (_p7 : (c3.toNat : Int) < 128) :
  Calls Tryz.prog 112 #[.string s] w fun e w' => e = .returned (.int .i64 0) ∧ w' = w := by
 have ha : bits .and .i64 (c0.toNat : Int) 7 = ((c0.toNat % 8 : Nat) : Int) := and7i ⟨c0.toNat, c0.toNat_lt⟩
 go_enter Tryz.func112, Tryz.ntmps112
 go_wp2
 refine wp_loop_rounds 3 ?_
 rw [rounds_succ]
 go_wp2
 rw [rounds_succ]
 go_wp2
 rw [rounds_succ]
 go_wp2
 go_ret
 exact ⟨rfl, rfl⟩
set_option maxRecDepth 100000 in
set_option maxHeartbeats 2000000 in
theorem size_hi43 (s : ByteArray) (w : World) (c0 c1 c2 c3 : UInt8) (h0 : 0 < s.size) (h1 : 1 < s.size) (h2 : 2 < s.size) (h3 : 3 < s.size) (_hs : s.size ≤ 10000) (e0 : s[0]'h0 = c0) (e1 : s[1]'h1 = c1) (e2 : s[2]'h2 = c2) (e3 : s[3]'h3 = c3) (_p0 : (240 : Int) ≤ (c0.toNat : Int)) (_p1 : (c0.toNat : Int) < 245) (_p2 : (4 : Int) ≤ (s.size : Int)) (_p3 : (128 : Int) ≤ (c1.toNat : Int)) (_p4 : (c1.toNat : Int) ≤ 191) (_p5 : (128 : Int) ≤ (c2.toNat : Int)) (_p6 : (c2.toNat : Int) ≤ 191) (_p7 : (191 : Int) < (c3.toNat : Int)) :
  Calls Tryz.prog 112 #[.string s] w fun e w' => e = .returned (.int .i64 0) ∧ w' = w := by
 have ha : bits .and .i64 (c0.toNat : Int) 7 = ((c0.toNat % 8 : Nat) : Int) := and7i ⟨c0.toNat, c0.toNat_lt⟩
 go_enter Tryz.func112, Tryz.ntmps112
 go_wp2
 refine wp_loop_rounds 3 ?_
 rw [rounds_succ]
 go_wp2
 rw [rounds_succ]
 go_wp2
 rw [rounds_succ]
 go_wp2
 go_ret
 exact ⟨rfl, rfl⟩
set_option maxRecDepth 100000 in
set_option maxHeartbeats 2000000 in
theorem size_four_small (s : ByteArray) (w : World) (c0 c1 c2 c3 : UInt8) (h0 : 0 < s.size) (h1 : 1 < s.size) (h2 : 2 < s.size) (h3 : 3 < s.size) (_hs : s.size ≤ 10000) (e0 : s[0]'h0 = c0) (e1 : s[1]'h1 = c1) (e2 : s[2]'h2 = c2) (e3 : s[3]'h3 = c3) (_p0 : (240 : Int) ≤ (c0.toNat : Int)) (_p1 : (c0.toNat : Int) < 245) (_p2 : (4 : Int) ≤ (s.size : Int)) (_p3 : (128 : Int) ≤ (c1.toNat : Int)) (_p4 : (c1.toNat : Int) ≤ 191) (_p5 : (128 : Int) ≤ (c2.toNat : Int)) (_p6 : (c2.toNat : Int) ≤ 191) (_p7 : (128 : Int) ≤ (c3.toNat : Int)) (_p8 : (c3.toNat : Int) ≤ 191) (_p9 : 64 * (64 * (64 * ((c0.toNat : Int) % 8) + (c1.toNat : Int) - 128) + (c2.toNat : Int) - 128) + (c3.toNat : Int) - 128 < 65536) :
  Calls Tryz.prog 112 #[.string s] w fun e w' => e = .returned (.int .i64 0) ∧ w' = w := by
 have ha : bits .and .i64 (c0.toNat : Int) 7 = ((c0.toNat % 8 : Nat) : Int) := and7i ⟨c0.toNat, c0.toNat_lt⟩
 go_enter Tryz.func112, Tryz.ntmps112
 go_wp2
 refine wp_loop_rounds 4 ?_
 rw [rounds_succ]
 go_wp2
 rw [rounds_succ]
 go_wp2
 rw [rounds_succ]
 go_wp2
 rw [rounds_succ]
 go_wp2
 go_ret
 exact ⟨rfl, rfl⟩
set_option maxRecDepth 100000 in
set_option maxHeartbeats 2000000 in
theorem size_four_big (s : ByteArray) (w : World) (c0 c1 c2 c3 : UInt8) (h0 : 0 < s.size) (h1 : 1 < s.size) (h2 : 2 < s.size) (h3 : 3 < s.size) (_hs : s.size ≤ 10000) (e0 : s[0]'h0 = c0) (e1 : s[1]'h1 = c1) (e2 : s[2]'h2 = c2) (e3 : s[3]'h3 = c3) (_p0 : (240 : Int) ≤ (c0.toNat : Int)) (_p1 : (c0.toNat : Int) < 245) (_p2 : (4 : Int) ≤ (s.size : Int)) (_p3 : (128 : Int) ≤ (c1.toNat : Int)) (_p4 : (c1.toNat : Int) ≤ 191) (_p5 : (128 : Int) ≤ (c2.toNat : Int)) (_p6 : (c2.toNat : Int) ≤ 191) (_p7 : (128 : Int) ≤ (c3.toNat : Int)) (_p8 : (c3.toNat : Int) ≤ 191) (_p9 : (1114111 : Int) < 64 * (64 * (64 * ((c0.toNat : Int) % 8) + (c1.toNat : Int) - 128) + (c2.toNat : Int) - 128) + (c3.toNat : Int) - 128) :
  Calls Tryz.prog 112 #[.string s] w fun e w' => e = .returned (.int .i64 0) ∧ w' = w := by
 have ha : bits .and .i64 (c0.toNat : Int) 7 = ((c0.toNat % 8 : Nat) : Int) := and7i ⟨c0.toNat, c0.toNat_lt⟩
 go_enter Tryz.func112, Tryz.ntmps112
 go_wp2
 refine wp_loop_rounds 4 ?_
 rw [rounds_succ]
 go_wp2
 rw [rounds_succ]
 go_wp2
 rw [rounds_succ]
 go_wp2
 rw [rounds_succ]
 go_wp2
 go_ret
 exact ⟨rfl, rfl⟩
set_option maxRecDepth 100000 in
set_option maxHeartbeats 2000000 in
theorem size_four (s : ByteArray) (w : World) (c0 c1 c2 c3 : UInt8) (h0 : 0 < s.size) (h1 : 1 < s.size) (h2 : 2 < s.size) (h3 : 3 < s.size) (_hs : s.size ≤ 10000) (e0 : s[0]'h0 = c0) (e1 : s[1]'h1 = c1) (e2 : s[2]'h2 = c2) (e3 : s[3]'h3 = c3) (_p0 : (240 : Int) ≤ (c0.toNat : Int)) (_p1 : (c0.toNat : Int) < 245) (_p2 : (4 : Int) ≤ (s.size : Int)) (_p3 : (128 : Int) ≤ (c1.toNat : Int)) (_p4 : (c1.toNat : Int) ≤ 191) (_p5 : (128 : Int) ≤ (c2.toNat : Int)) (_p6 : (c2.toNat : Int) ≤ 191) (_p7 : (128 : Int) ≤ (c3.toNat : Int)) (_p8 : (c3.toNat : Int) ≤ 191) (_p9 : (65536 : Int) ≤ 64 * (64 * (64 * ((c0.toNat : Int) % 8) + (c1.toNat : Int) - 128) + (c2.toNat : Int) - 128) + (c3.toNat : Int) - 128) (p10 : 64 * (64 * (64 * ((c0.toNat : Int) % 8) + (c1.toNat : Int) - 128) + (c2.toNat : Int) - 128) + (c3.toNat : Int) - 128 ≤ 1114111) :
  Calls Tryz.prog 112 #[.string s] w fun e w' => e = .returned (.int .i64 4) ∧ w' = w := by
 have ha : bits .and .i64 (c0.toNat : Int) 7 = ((c0.toNat % 8 : Nat) : Int) := and7i ⟨c0.toNat, c0.toNat_lt⟩
 go_enter Tryz.func112, Tryz.ntmps112
 go_wp2
 refine wp_loop_rounds 4 ?_
 rw [rounds_succ]
 go_wp2
 rw [rounds_succ]
 go_wp2
 rw [rounds_succ]
 go_wp2
 rw [rounds_succ]
 go_wp2
 go_ret
 exact ⟨rfl, rfl⟩
end Go.Proofs.YtkbinfhclaafhaaGreatDoor
namespace Go.Proofs.YtkbinfhclaafhaaGreatDoor
open Go.RowKit
theorem size_any (s : ByteArray) (w : World) (h0 : 0 < s.size) (hs : s.size ≤ 10000) :
  Calls Tryz.prog 112 #[.string s] w fun e w' => e = .returned (.int .i64 (sz s)) ∧ w' = w := by
 have e0 : s[0]'h0 = s.get! 0 := (get_eq s 0 h0).symm
 have e1 : ∀ h : 1 < s.size, s[1]'h = s.get! 1 := fun h => (get_eq s 1 h).symm
 have e2 : ∀ h : 2 < s.size, s[2]'h = s.get! 2 := fun h => (get_eq s 2 h).symm
 have e3 : ∀ h : 3 < s.size, s[3]'h = s.get! 3 := fun h => (get_eq s 3 h).symm
 have l0 := (s.get! 0).toNat_lt
 have l1 := (s.get! 1).toNat_lt
 have l2 := (s.get! 2).toNat_lt
 have l3 := (s.get! 3).toNat_lt
 unfold sz
 obtain ⟨b0, q0⟩ : ∃ b, b = (s.get! 0).toNat := ⟨_, rfl⟩
 obtain ⟨b1, q1⟩ : ∃ b, b = (s.get! 1).toNat := ⟨_, rfl⟩
 obtain ⟨b2, q2⟩ : ∃ b, b = (s.get! 2).toNat := ⟨_, rfl⟩
 obtain ⟨b3, q3⟩ : ∃ b, b = (s.get! 3).toNat := ⟨_, rfl⟩
 rw [← q0, ← q1, ← q2, ← q3]
 by_cases a : b0 < 128
 ·refine (size_asc s w _ h0 hs e0 (by omega)).mono ?_
  rintro e w' ⟨rfl, rfl⟩
  exact ⟨ret_int (by rw [szN_of (dec_asc a) (by omega)]; rfl), rfl⟩
 by_cases b : b0 < 194
 ·refine (size_bad1 s w _ h0 hs e0 (by omega) (by omega)).mono ?_
  rintro e w' ⟨rfl, rfl⟩
  exact ⟨ret_int (by rw [szN_bad (dec_bad1 (by omega) (by omega))]; rfl), rfl⟩
 by_cases c : 245 ≤ b0
 ·refine (size_bad2 s w _ h0 hs e0 (by omega) (by omega)).mono ?_
  rintro e w' ⟨rfl, rfl⟩
  exact ⟨ret_int (by rw [szN_bad (dec_bad2 (by omega) (by omega))]; rfl), rfl⟩
 by_cases d : b0 < 224
 ·by_cases n2 : s.size < 2
  ·refine (size_short2 s w _ h0 hs e0 (by omega) (by omega) (by omega)).mono ?_
   rintro e w' ⟨rfl, rfl⟩
   exact ⟨ret_int (by rw [szN_bad (dec_2bad (by omega) (by omega) (by omega) (by omega))]; rfl), rfl⟩
  by_cases q1 : b1 < 128
  ·refine (size_lo21 s w _ _ h0 (by omega) hs e0 (e1 (by omega)) (by omega) (by omega) (by omega) (by omega)).mono ?_
   rintro e w' ⟨rfl, rfl⟩
   exact ⟨ret_int (by rw [szN_bad (dec_2bad (by omega) (by omega) (by omega) (by omega))]; rfl), rfl⟩
  by_cases q2 : 191 < b1
  ·refine (size_hi21 s w _ _ h0 (by omega) hs e0 (e1 (by omega)) (by omega) (by omega) (by omega) (by omega)).mono ?_
   rintro e w' ⟨rfl, rfl⟩
   exact ⟨ret_int (by rw [szN_bad (dec_2bad (by omega) (by omega) (by omega) (by omega))]; rfl), rfl⟩
  ·refine (size_two s w _ _ h0 (by omega) hs e0 (e1 (by omega)) (by omega) (by omega) (by omega) (by omega) (by omega)).mono ?_
   rintro e w' ⟨rfl, rfl⟩
   exact ⟨ret_int (by rw [szN_of (dec_2ok (by omega) (by omega) (by omega) (by omega) (by omega)) (by omega)]; rfl), rfl⟩
 by_cases f : b0 < 240
 ·by_cases n3 : s.size < 3
  ·refine (size_short3 s w _ h0 hs e0 (by omega) (by omega) (by omega)).mono ?_
   rintro e w' ⟨rfl, rfl⟩
   exact ⟨ret_int (by rw [szN_bad (dec_3bad (by omega) (by omega) (by omega) (by omega) (by omega))]; rfl), rfl⟩
  by_cases q1 : b1 < 128
  ·refine (size_lo31 s w _ _ h0 (by omega) hs e0 (e1 (by omega)) (by omega) (by omega) (by omega) (by omega)).mono ?_
   rintro e w' ⟨rfl, rfl⟩
   exact ⟨ret_int (by rw [szN_bad (dec_3bad (by omega) (by omega) (by omega) (by omega) (by omega))]; rfl), rfl⟩
  by_cases q2 : 191 < b1
  ·refine (size_hi31 s w _ _ h0 (by omega) hs e0 (e1 (by omega)) (by omega) (by omega) (by omega) (by omega)).mono ?_
   rintro e w' ⟨rfl, rfl⟩
   exact ⟨ret_int (by rw [szN_bad (dec_3bad (by omega) (by omega) (by omega) (by omega) (by omega))]; rfl), rfl⟩
  by_cases q3 : b2 < 128
  ·refine (size_lo32 s w _ _ _ h0 (by omega) (by omega) hs e0 (e1 (by omega)) (e2 (by omega)) (by omega) (by omega) (by omega) (by omega) (by omega) (by omega)).mono ?_
   rintro e w' ⟨rfl, rfl⟩
   exact ⟨ret_int (by rw [szN_bad (dec_3bad (by omega) (by omega) (by omega) (by omega) (by omega))]; rfl), rfl⟩
  by_cases q4 : 191 < b2
  ·refine (size_hi32 s w _ _ _ h0 (by omega) (by omega) hs e0 (e1 (by omega)) (e2 (by omega)) (by omega) (by omega) (by omega) (by omega) (by omega) (by omega)).mono ?_
   rintro e w' ⟨rfl, rfl⟩
   exact ⟨ret_int (by rw [szN_bad (dec_3bad (by omega) (by omega) (by omega) (by omega) (by omega))]; rfl), rfl⟩
  by_cases r1 : b0 % 16 * 4096 + b1 % 64 * 64 + b2 % 64 < 2048
  ·refine (size_three_small s w _ _ _ h0 (by omega) (by omega) hs e0 (e1 (by omega)) (e2 (by omega)) (by omega) (by omega) (by omega) (by omega) (by omega) (by omega) (by omega) (by omega)).mono ?_
   rintro e w' ⟨rfl, rfl⟩
   exact ⟨ret_int (by rw [szN_bad (dec_3off (by omega) (by omega) (by omega))]; rfl), rfl⟩
  by_cases r2 : b0 % 16 * 4096 + b1 % 64 * 64 + b2 % 64 < 55296
  ·refine (size_three_a s w _ _ _ h0 (by omega) (by omega) hs e0 (e1 (by omega)) (e2 (by omega)) (by omega) (by omega) (by omega) (by omega) (by omega) (by omega) (by omega) (by omega) (by omega)).mono ?_
   rintro e w' ⟨rfl, rfl⟩
   exact ⟨ret_int (by rw [szN_of (dec_3ok (by omega) (by omega) (by omega) (by omega) (by omega) (by omega) (by omega) (by omega) (by omega)) (by omega)]; rfl), rfl⟩
  by_cases r3 : b0 % 16 * 4096 + b1 % 64 * 64 + b2 % 64 ≤ 57343
  ·refine (size_three_sur s w _ _ _ h0 (by omega) (by omega) hs e0 (e1 (by omega)) (e2 (by omega)) (by omega) (by omega) (by omega) (by omega) (by omega) (by omega) (by omega) (by omega) (by omega)).mono ?_
   rintro e w' ⟨rfl, rfl⟩
   exact ⟨ret_int (by rw [szN_bad (dec_3off (by omega) (by omega) (by omega))]; rfl), rfl⟩
  ·refine (size_three_b s w _ _ _ h0 (by omega) (by omega) hs e0 (e1 (by omega)) (e2 (by omega)) (by omega) (by omega) (by omega) (by omega) (by omega) (by omega) (by omega) (by omega)).mono ?_
   rintro e w' ⟨rfl, rfl⟩
   exact ⟨ret_int (by rw [szN_of (dec_3ok (by omega) (by omega) (by omega) (by omega) (by omega) (by omega) (by omega) (by omega) (by omega)) (by omega)]; rfl), rfl⟩
 by_cases n4 : s.size < 4
 ·refine (size_short4 s w _ h0 hs e0 (by omega) (by omega) (by omega)).mono ?_
  rintro e w' ⟨rfl, rfl⟩
  exact ⟨ret_int (by rw [szN_bad (dec_4bad (by omega) (by omega) (by omega) (by omega) (by omega) (by omega))]; rfl), rfl⟩
 by_cases u1 : b1 < 128
 ·refine (size_lo41 s w _ _ h0 (by omega) hs e0 (e1 (by omega)) (by omega) (by omega) (by omega) (by omega)).mono ?_
  rintro e w' ⟨rfl, rfl⟩
  exact ⟨ret_int (by rw [szN_bad (dec_4bad (by omega) (by omega) (by omega) (by omega) (by omega) (by omega))]; rfl), rfl⟩
 by_cases v1 : 191 < b1
 ·refine (size_hi41 s w _ _ h0 (by omega) hs e0 (e1 (by omega)) (by omega) (by omega) (by omega) (by omega)).mono ?_
  rintro e w' ⟨rfl, rfl⟩
  exact ⟨ret_int (by rw [szN_bad (dec_4bad (by omega) (by omega) (by omega) (by omega) (by omega) (by omega))]; rfl), rfl⟩
 by_cases u2 : b2 < 128
 ·refine (size_lo42 s w _ _ _ h0 (by omega) (by omega) hs e0 (e1 (by omega)) (e2 (by omega)) (by omega) (by omega) (by omega) (by omega) (by omega) (by omega)).mono ?_
  rintro e w' ⟨rfl, rfl⟩
  exact ⟨ret_int (by rw [szN_bad (dec_4bad (by omega) (by omega) (by omega) (by omega) (by omega) (by omega))]; rfl), rfl⟩
 by_cases v2 : 191 < b2
 ·refine (size_hi42 s w _ _ _ h0 (by omega) (by omega) hs e0 (e1 (by omega)) (e2 (by omega)) (by omega) (by omega) (by omega) (by omega) (by omega) (by omega)).mono ?_
  rintro e w' ⟨rfl, rfl⟩
  exact ⟨ret_int (by rw [szN_bad (dec_4bad (by omega) (by omega) (by omega) (by omega) (by omega) (by omega))]; rfl), rfl⟩
 by_cases u3 : b3 < 128
 ·refine (size_lo43 s w _ _ _ _ h0 (by omega) (by omega) (by omega) hs e0 (e1 (by omega)) (e2 (by omega)) (e3 (by omega)) (by omega) (by omega) (by omega) (by omega) (by omega) (by omega) (by omega) (by omega)).mono ?_
  rintro e w' ⟨rfl, rfl⟩
  exact ⟨ret_int (by rw [szN_bad (dec_4bad (by omega) (by omega) (by omega) (by omega) (by omega) (by omega))]; rfl), rfl⟩
 by_cases v3 : 191 < b3
 ·refine (size_hi43 s w _ _ _ _ h0 (by omega) (by omega) (by omega) hs e0 (e1 (by omega)) (e2 (by omega)) (e3 (by omega)) (by omega) (by omega) (by omega) (by omega) (by omega) (by omega) (by omega) (by omega)).mono ?_
  rintro e w' ⟨rfl, rfl⟩
  exact ⟨ret_int (by rw [szN_bad (dec_4bad (by omega) (by omega) (by omega) (by omega) (by omega) (by omega))]; rfl), rfl⟩
 by_cases r1 : b0 % 8 * 262144 + b1 % 64 * 4096 + b2 % 64 * 64 + b3 % 64 < 65536
 ·refine (size_four_small s w _ _ _ _ h0 (by omega) (by omega) (by omega) hs e0 (e1 (by omega)) (e2 (by omega)) (e3 (by omega)) (by omega) (by omega) (by omega) (by omega) (by omega) (by omega) (by omega) (by omega) (by omega) (by omega)).mono ?_
  rintro e w' ⟨rfl, rfl⟩
  exact ⟨ret_int (by rw [szN_bad (dec_4off (by omega) (by omega) (by omega))]; rfl), rfl⟩
 by_cases r2 : 1114111 < b0 % 8 * 262144 + b1 % 64 * 4096 + b2 % 64 * 64 + b3 % 64
 ·refine (size_four_big s w _ _ _ _ h0 (by omega) (by omega) (by omega) hs e0 (e1 (by omega)) (e2 (by omega)) (e3 (by omega)) (by omega) (by omega) (by omega) (by omega) (by omega) (by omega) (by omega) (by omega) (by omega) (by omega)).mono ?_
  rintro e w' ⟨rfl, rfl⟩
  exact ⟨ret_int (by rw [szN_bad (dec_4off (by omega) (by omega) (by omega))]; rfl), rfl⟩
 ·refine (size_four s w _ _ _ _ h0 (by omega) (by omega) (by omega) hs e0 (e1 (by omega)) (e2 (by omega)) (e3 (by omega)) (by omega) (by omega) (by omega) (by omega) (by omega) (by omega) (by omega) (by omega) (by omega) (by omega) (by omega)).mono ?_
  rintro e w' ⟨rfl, rfl⟩
  exact ⟨ret_int (by rw [szN_of (dec_4ok (by omega) (by omega) (by omega) (by omega) (by omega) (by omega) (by omega) (by omega) (by omega) (by omega) (by omega)) (by omega)]; rfl), rfl⟩
end Go.Proofs.YtkbinfhclaafhaaGreatDoor
namespace Go.Proofs.YtkbinfhclaafhaaGreatDoor
open Go.RowKit
theorem runesFrom_end (s : ByteArray) (f p : Nat) (h : ¬ p < s.size) : runesFrom s f p = some [] := by
 cases f with
 | zero => rfl
 | succ f => simp [runesFrom, h]
theorem runesFrom_bad (s : ByteArray) (f p : Nat) (hf : s.size ≤ p + f) (h : p < s.size) (hz : szAt s p = 0) : runesFrom s f p = none := by
 cases f with
 | zero => omega
 | succ f => simp [runesFrom, h, hz]
theorem runesFrom_step (s : ByteArray) (f p : Nat) (hf : s.size ≤ p + f) (h : p < s.size) (hz : szAt s p ≠ 0) :
  ∃ f', s.size ≤ p + szAt s p + f' ∧ runesFrom s f p = (runesFrom s f' (p + szAt s p)).map (runeAt s p :: ·) := by
 cases f with
 | zero => omega
 | succ f => exact ⟨f, by omega, by simp [runesFrom, h, hz]⟩
def RunesTo (s : ByteArray) (p : Nat) (l : List Int) : Prop := ∃ f, s.size ≤ p + f ∧ l.length ≤ p ∧ runesOf s = (runesFrom s f p).map (l ++ ·)
theorem RunesTo.start (s : ByteArray) : RunesTo s 0 [] := ⟨s.size, by omega, by simp, by simp [runesOf]⟩
theorem RunesTo.stop {s : ByteArray} {p : Nat} {l : List Int} (h : RunesTo s p l) (hp : ¬ p < s.size) : runesOf s = some l := by
 obtain ⟨f, _, _, e⟩ := h
 rw [e, runesFrom_end s f p hp]; simp
theorem RunesTo.bad {s : ByteArray} {p : Nat} {l : List Int} (h : RunesTo s p l) (hp : p < s.size) (hz : szAt s p = 0) : runesOf s = none := by
 obtain ⟨f, hf, _, e⟩ := h
 rw [e, runesFrom_bad s f p hf hp hz]; rfl
theorem RunesTo.step {s : ByteArray} {p : Nat} {l : List Int} (h : RunesTo s p l) (hp : p < s.size) (hz : szAt s p ≠ 0) : RunesTo s (p + szAt s p) (l ++ [runeAt s p]) := by
 obtain ⟨f, hf, hl, e⟩ := h
 obtain ⟨f', hf', e'⟩ := runesFrom_step s f p hf hp hz
 refine ⟨f', hf', by simp; omega, ?_⟩
 rw [e, e']
 cases runesFrom s f' (p + szAt s p) <;> simp
set_option maxRecDepth 100000 in
set_option maxHeartbeats 4000000 in
theorem runes_any (s : ByteArray) (w : World) (hs : s.size ≤ 1000) :
  Calls Tryz.prog 67 #[.string s] w fun e w' => Below w.heap.size w w' ∧
   ((runesOf s = none ∧ ∃ p : Nat, e = .returned (.tuple #[.slice none 0 0, .int .i64 p])) ∨
    ∃ v l, runesOf s = some l ∧ l.length ≤ s.size ∧ e = .returned (.tuple #[v, .int .i64 (-1)]) ∧ w'.ownsRow w.heap.size 3 1 v l.length (l.map (Value.int .i64))) := by
 obtain ⟨i0, hi, hz0, hz1, hz2⟩ := info_parts Tryz.infoInt
 go_enter Tryz.func67, Tryz.ntmps67
 go_wp2
 go_loopw [4, 5] (fun v i wr => ∃ (p : Nat) (l : List Int), p ≤ s.size ∧ i = .int .i64 p ∧ RunesTo s p l ∧ wr.ownsRow w.heap.size 3 1 v l.length (l.map (Value.int .i64)) ∧ Below w.heap.size w wr) (fun _ i _ => s.size - (intOf i).toNat)
 case atStart => exact ⟨0, [], Nat.zero_le _, rfl, RunesTo.start s, World.ownsRow_nil _ _ _ _, Below.refl _ _⟩
 case round =>
  obtain ⟨p, l, hp, rfl, hR, hown, hb⟩ := hrel
  have HR : Hid (RunesTo s p l) := hR
  have hbz := hb.size
  have hll : l.length ≤ p := by obtain ⟨f, _, h, _⟩ := hR; exact h
  clear hR
  by_cases hlt : p < s.size
  ·have hlt' : (p : Int) < (s.size : Int) := by omega
   have HZ := sz_extract s p hlt
   have hsz : (s.extract p s.size).size = s.size - p := size_extract_end s p
   by_cases hz : szAt s p = 0
   ·rw [hz] at HZ
    have HC : Hid (Calls Tryz.prog 112 #[.string (s.extract p s.size)] wr fun e w' => e = .returned (.int .i64 0) ∧ w' = wr) := by
     have := size_any (s.extract p s.size) wr (by omega) (by omega)
     rw [HZ] at this
     exact this
    have HZ0 : Hid (szAt s p = 0) := hz
    clear HZ hsz hz
    go_wp2_with fail
    refine HC.out.mono ?_
    rintro e w' ⟨rfl, rfl⟩
    go_wp2
    go_ret2
    exact ⟨hb, .inl ⟨HR.out.bad hlt HZ0.out, p, rfl⟩⟩
   rcases sz_cases s p hlt hz with ⟨e1, h1, hr⟩ | ⟨e1, hn, h1, h2, h3, h4, hr⟩ | ⟨e1, hn, h1, h2, h3, h4, h5, h6, hr⟩ | ⟨e1, hn, h1, h2, h3, h4, h5, h6, h7, h8, hr⟩
   ·have hz' : szAt s p ≠ 0 := by omega
    have HS : Hid (RunesTo s (p + 1) (l ++ [runeAt s p])) := e1 ▸ HR.out.step hlt hz'
    have HV : Hid (runeAt s p = _) := hr
    rw [e1] at HZ
    have HC : Hid (Calls Tryz.prog 112 #[.string (s.extract p s.size)] wr fun e w' => e = .returned (.int .i64 1) ∧ w' = wr) := by
     have := size_any (s.extract p s.size) wr (by omega) (by omega)
     rw [HZ] at this
     exact this
    clear HZ hsz hz hz' hr e1 HR
    have hi0 : s[p]'(by omega) = s.get! (p) := (get_eq s (p) (by omega)).symm
    have hl0 : ((s.get! (p)).toNat : Int) < 256 := by have := (s.get! (p)).toNat_lt; omega
    generalize s.get! (p) = c0 at *
    go_wp2_with fail
    refine HC.out.mono ?_
    rintro e w' ⟨rfl, rfl⟩
    clear HC
    go_wp2
    refine wp_loop_rounds 1 ?_
    rw [rounds_succ]
    go_wp2_with (at_builtin; refine wpList_push _ rfl _ _ 31 rfl w.heap.size 3 i0 (.int .i64 0) 8 Tryz.underlying31 hi hz0 hz1 hz2 rfl (by decide) _ _ _ rfl hown _ _ rfl rfl (by omega) (by omega) ?_)
    intro v' w1 hown' hb'
    clear hown
    go_wp2
    go_roundw
    case rel => exact ⟨p + 1, _, by omega, by go_num, HS.out, by rw [HV.out]; simpa using hown', hb.trans hb'⟩
    case measure => simp [intOf]; omega
   ·have hz' : szAt s p ≠ 0 := by omega
    have HS : Hid (RunesTo s (p + 2) (l ++ [runeAt s p])) := e1 ▸ HR.out.step hlt hz'
    have HV : Hid (runeAt s p = _) := hr
    rw [e1] at HZ
    have HC : Hid (Calls Tryz.prog 112 #[.string (s.extract p s.size)] wr fun e w' => e = .returned (.int .i64 2) ∧ w' = wr) := by
     have := size_any (s.extract p s.size) wr (by omega) (by omega)
     rw [HZ] at this
     exact this
    clear HZ hsz hz hz' hr e1 HR
    have hi0 : s[p]'(by omega) = s.get! (p) := (get_eq s (p) (by omega)).symm
    have hl0 : ((s.get! (p)).toNat : Int) < 256 := by have := (s.get! (p)).toNat_lt; omega
    have hi1 : s[p + 1]'(by omega) = s.get! (p + 1) := (get_eq s (p + 1) (by omega)).symm
    have hl1 : ((s.get! (p + 1)).toNat : Int) < 256 := by have := (s.get! (p + 1)).toNat_lt; omega
    generalize s.get! (p) = c0 at *
    generalize s.get! (p + 1) = c1 at *
    have ha : bits .and .i64 (c0.toNat : Int) 31 = ((c0.toNat % 32 : Nat) : Int) := and31 ⟨c0.toNat, c0.toNat_lt⟩
    go_wp2_with fail
    refine HC.out.mono ?_
    rintro e w' ⟨rfl, rfl⟩
    clear HC
    go_wp2
    refine wp_loop_rounds 2 ?_
    rw [rounds_succ]
    go_wp2
    rw [rounds_succ]
    go_wp2_with (at_builtin; refine wpList_push _ rfl _ _ 31 rfl w.heap.size 3 i0 (.int .i64 0) 8 Tryz.underlying31 hi hz0 hz1 hz2 rfl (by decide) _ _ _ rfl hown _ _ rfl rfl (by omega) (by omega) ?_)
    intro v' w1 hown' hb'
    clear hown
    go_wp2
    go_roundw
    case rel => exact ⟨p + 2, _, by omega, by go_num, HS.out, by rw [HV.out]; simpa using hown', hb.trans hb'⟩
    case measure => simp [intOf]; omega
   ·have hz' : szAt s p ≠ 0 := by omega
    have HS : Hid (RunesTo s (p + 3) (l ++ [runeAt s p])) := e1 ▸ HR.out.step hlt hz'
    have HV : Hid (runeAt s p = _) := hr
    rw [e1] at HZ
    have HC : Hid (Calls Tryz.prog 112 #[.string (s.extract p s.size)] wr fun e w' => e = .returned (.int .i64 3) ∧ w' = wr) := by
     have := size_any (s.extract p s.size) wr (by omega) (by omega)
     rw [HZ] at this
     exact this
    clear HZ hsz hz hz' hr e1 HR
    have hi0 : s[p]'(by omega) = s.get! (p) := (get_eq s (p) (by omega)).symm
    have hl0 : ((s.get! (p)).toNat : Int) < 256 := by have := (s.get! (p)).toNat_lt; omega
    have hi1 : s[p + 1]'(by omega) = s.get! (p + 1) := (get_eq s (p + 1) (by omega)).symm
    have hl1 : ((s.get! (p + 1)).toNat : Int) < 256 := by have := (s.get! (p + 1)).toNat_lt; omega
    have hi2 : s[p + 2]'(by omega) = s.get! (p + 2) := (get_eq s (p + 2) (by omega)).symm
    have hl2 : ((s.get! (p + 2)).toNat : Int) < 256 := by have := (s.get! (p + 2)).toNat_lt; omega
    generalize s.get! (p) = c0 at *
    generalize s.get! (p + 1) = c1 at *
    generalize s.get! (p + 2) = c2 at *
    have ha : bits .and .i64 (c0.toNat : Int) 15 = ((c0.toNat % 16 : Nat) : Int) := and15 ⟨c0.toNat, c0.toNat_lt⟩
    go_wp2_with fail
    refine HC.out.mono ?_
    rintro e w' ⟨rfl, rfl⟩
    clear HC
    go_wp2
    refine wp_loop_rounds 3 ?_
    rw [rounds_succ]
    go_wp2
    rw [rounds_succ]
    go_wp2
    rw [rounds_succ]
    go_wp2_with (at_builtin; refine wpList_push _ rfl _ _ 31 rfl w.heap.size 3 i0 (.int .i64 0) 8 Tryz.underlying31 hi hz0 hz1 hz2 rfl (by decide) _ _ _ rfl hown _ _ rfl rfl (by omega) (by omega) ?_)
    intro v' w1 hown' hb'
    clear hown
    go_wp2
    go_roundw
    case rel => exact ⟨p + 3, _, by omega, by go_num, HS.out, by rw [HV.out]; simpa using hown', hb.trans hb'⟩
    case measure => simp [intOf]; omega
   ·have hz' : szAt s p ≠ 0 := by omega
    have HS : Hid (RunesTo s (p + 4) (l ++ [runeAt s p])) := e1 ▸ HR.out.step hlt hz'
    have HV : Hid (runeAt s p = _) := hr
    rw [e1] at HZ
    have HC : Hid (Calls Tryz.prog 112 #[.string (s.extract p s.size)] wr fun e w' => e = .returned (.int .i64 4) ∧ w' = wr) := by
     have := size_any (s.extract p s.size) wr (by omega) (by omega)
     rw [HZ] at this
     exact this
    clear HZ hsz hz hz' hr e1 HR
    have hi0 : s[p]'(by omega) = s.get! (p) := (get_eq s (p) (by omega)).symm
    have hl0 : ((s.get! (p)).toNat : Int) < 256 := by have := (s.get! (p)).toNat_lt; omega
    have hi1 : s[p + 1]'(by omega) = s.get! (p + 1) := (get_eq s (p + 1) (by omega)).symm
    have hl1 : ((s.get! (p + 1)).toNat : Int) < 256 := by have := (s.get! (p + 1)).toNat_lt; omega
    have hi2 : s[p + 2]'(by omega) = s.get! (p + 2) := (get_eq s (p + 2) (by omega)).symm
    have hl2 : ((s.get! (p + 2)).toNat : Int) < 256 := by have := (s.get! (p + 2)).toNat_lt; omega
    have hi3 : s[p + 3]'(by omega) = s.get! (p + 3) := (get_eq s (p + 3) (by omega)).symm
    have hl3 : ((s.get! (p + 3)).toNat : Int) < 256 := by have := (s.get! (p + 3)).toNat_lt; omega
    generalize s.get! (p) = c0 at *
    generalize s.get! (p + 1) = c1 at *
    generalize s.get! (p + 2) = c2 at *
    generalize s.get! (p + 3) = c3 at *
    have ha : bits .and .i64 (c0.toNat : Int) 7 = ((c0.toNat % 8 : Nat) : Int) := and7i ⟨c0.toNat, c0.toNat_lt⟩
    go_wp2_with fail
    refine HC.out.mono ?_
    rintro e w' ⟨rfl, rfl⟩
    clear HC
    go_wp2
    refine wp_loop_rounds 4 ?_
    rw [rounds_succ]
    go_wp2
    rw [rounds_succ]
    go_wp2
    rw [rounds_succ]
    go_wp2
    rw [rounds_succ]
    go_wp2_with (at_builtin; refine wpList_push _ rfl _ _ 31 rfl w.heap.size 3 i0 (.int .i64 0) 8 Tryz.underlying31 hi hz0 hz1 hz2 rfl (by decide) _ _ _ rfl hown _ _ rfl rfl (by omega) (by omega) ?_)
    intro v' w1 hown' hb'
    clear hown
    go_wp2
    go_roundw
    case rel => exact ⟨p + 4, _, by omega, by go_num, HS.out, by rw [HV.out]; simpa using hown', hb.trans hb'⟩
    case measure => simp [intOf]; omega
  ·go_wp2
   go_ret2
   exact ⟨hb, .inr ⟨_, l, HR.out.stop hlt, by omega, rfl, hown⟩⟩
end Go.Proofs.YtkbinfhclaafhaaGreatDoor
