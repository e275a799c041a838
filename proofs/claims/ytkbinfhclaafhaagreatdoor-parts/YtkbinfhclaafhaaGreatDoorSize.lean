import Derived.Test.YtkbinfhclaafhaaGreatDoorClass
import Derived.Lib.TrimU
import Derived.Laws.BitsAllLaws
namespace Go.Proofs.YtkbinfhclaafhaaGreatDoor
open Go.RowKit

/-- How many bytes the rune takes that begins a text of n bytes, these the first; 0: none does. -/
def szN (n b0 b1 b2 b3 : Nat) : Nat := if (Lib.decodeN n b0 b1 b2 b3).1 = 65533 ∧ (Lib.decodeN n b0 b1 b2 b3).2 = 1 then 0 else (Lib.decodeN n b0 b1 b2 b3).2
def sz (s : ByteArray) : Nat := szN s.size (s.get! 0).toNat (s.get! 1).toNat (s.get! 2).toNat (s.get! 3).toNat

set_option maxRecDepth 100000 in
theorem and31 : ∀ X : Fin 256, bits .and .i64 ((X.val : Nat) : Int) 31 = ((X.val % 32 : Nat) : Int) := by decide
set_option maxRecDepth 100000 in
theorem and15 : ∀ X : Fin 256, bits .and .i64 ((X.val : Nat) : Int) 15 = ((X.val % 16 : Nat) : Int) := by decide
set_option maxRecDepth 100000 in
theorem and7i : ∀ X : Fin 256, bits .and .i64 ((X.val : Nat) : Int) 7 = ((X.val % 8 : Nat) : Int) := by decide

theorem get_eq (s : ByteArray) (k : Nat) (h : k < s.size) : s.get! k = s[k]'h := by
  simp [ByteArray.get!, getElem!_pos, h]
  rfl

set_option maxRecDepth 100000 in
set_option maxHeartbeats 2000000 in
theorem size_asc (s : ByteArray) (w : World) (c0 : UInt8) (h0 : 0 < s.size) (_hs : s.size ≤ 10000) (e0 : s[0]'h0 = c0) (_p0 : (c0.toNat : Int) < 128) :
    Calls Tryz.prog 112 #[.string s] w fun e w' => e = .returned (.int .i64 1) ∧ w' = w := by
  go_enter Tryz.func112, Tryz.ntmps112
  go_wp2
  go_ret
  exact ⟨rfl, rfl⟩

set_option maxRecDepth 100000 in
set_option maxHeartbeats 2000000 in
theorem size_bad1 (s : ByteArray) (w : World) (c0 : UInt8) (h0 : 0 < s.size) (_hs : s.size ≤ 10000) (e0 : s[0]'h0 = c0) (_p0 : (128 : Int) ≤ (c0.toNat : Int)) (_p1 : (c0.toNat : Int) < 194) :
    Calls Tryz.prog 112 #[.string s] w fun e w' => e = .returned (.int .i64 0) ∧ w' = w := by
  go_enter Tryz.func112, Tryz.ntmps112
  go_wp2
  go_ret
  exact ⟨rfl, rfl⟩

set_option maxRecDepth 100000 in
set_option maxHeartbeats 2000000 in
theorem size_bad2 (s : ByteArray) (w : World) (c0 : UInt8) (h0 : 0 < s.size) (_hs : s.size ≤ 10000) (e0 : s[0]'h0 = c0) (_p0 : (245 : Int) ≤ (c0.toNat : Int)) (_p1 : (c0.toNat : Int) < 256) :
    Calls Tryz.prog 112 #[.string s] w fun e w' => e = .returned (.int .i64 0) ∧ w' = w := by
  go_enter Tryz.func112, Tryz.ntmps112
  go_wp2
  go_ret
  exact ⟨rfl, rfl⟩

set_option maxRecDepth 100000 in
set_option maxHeartbeats 2000000 in
theorem size_short2 (s : ByteArray) (w : World) (c0 : UInt8) (h0 : 0 < s.size) (_hs : s.size ≤ 10000) (e0 : s[0]'h0 = c0) (_p0 : (194 : Int) ≤ (c0.toNat : Int)) (_p1 : (c0.toNat : Int) < 224) (_p2 : (s.size : Int) < 2) :
    Calls Tryz.prog 112 #[.string s] w fun e w' => e = .returned (.int .i64 0) ∧ w' = w := by
  go_enter Tryz.func112, Tryz.ntmps112
  go_wp2
  go_ret
  exact ⟨rfl, rfl⟩

set_option maxRecDepth 100000 in
set_option maxHeartbeats 2000000 in
theorem size_lo21 (s : ByteArray) (w : World) (c0 c1 : UInt8) (h0 : 0 < s.size) (h1 : 1 < s.size) (_hs : s.size ≤ 10000) (e0 : s[0]'h0 = c0) (e1 : s[1]'h1 = c1) (_p0 : (194 : Int) ≤ (c0.toNat : Int)) (_p1 : (c0.toNat : Int) < 224) (_p2 : (2 : Int) ≤ (s.size : Int)) (_p3 : (c1.toNat : Int) < 128) :
    Calls Tryz.prog 112 #[.string s] w fun e w' => e = .returned (.int .i64 0) ∧ w' = w := by
  have ha : bits .and .i64 (c0.toNat : Int) 31 = ((c0.toNat % 32 : Nat) : Int) := and31 ⟨c0.toNat, c0.toNat_lt⟩
  go_enter Tryz.func112, Tryz.ntmps112
  go_wp2
  refine wp_loop_rounds 1 ?_
  rw [rounds_succ]
  go_wp2
  go_ret
  exact ⟨rfl, rfl⟩

set_option maxRecDepth 100000 in
set_option maxHeartbeats 2000000 in
theorem size_hi21 (s : ByteArray) (w : World) (c0 c1 : UInt8) (h0 : 0 < s.size) (h1 : 1 < s.size) (_hs : s.size ≤ 10000) (e0 : s[0]'h0 = c0) (e1 : s[1]'h1 = c1) (_p0 : (194 : Int) ≤ (c0.toNat : Int)) (_p1 : (c0.toNat : Int) < 224) (_p2 : (2 : Int) ≤ (s.size : Int)) (_p3 : (191 : Int) < (c1.toNat : Int)) :
    Calls Tryz.prog 112 #[.string s] w fun e w' => e = .returned (.int .i64 0) ∧ w' = w := by
  have ha : bits .and .i64 (c0.toNat : Int) 31 = ((c0.toNat % 32 : Nat) : Int) := and31 ⟨c0.toNat, c0.toNat_lt⟩
  go_enter Tryz.func112, Tryz.ntmps112
  go_wp2
  refine wp_loop_rounds 1 ?_
  rw [rounds_succ]
  go_wp2
  go_ret
  exact ⟨rfl, rfl⟩

set_option maxRecDepth 100000 in
set_option maxHeartbeats 2000000 in
theorem size_two (s : ByteArray) (w : World) (c0 c1 : UInt8) (h0 : 0 < s.size) (h1 : 1 < s.size) (_hs : s.size ≤ 10000) (e0 : s[0]'h0 = c0) (e1 : s[1]'h1 = c1) (_p0 : (194 : Int) ≤ (c0.toNat : Int)) (_p1 : (c0.toNat : Int) < 224) (_p2 : (2 : Int) ≤ (s.size : Int)) (_p3 : (128 : Int) ≤ (c1.toNat : Int)) (_p4 : (c1.toNat : Int) ≤ 191) :
    Calls Tryz.prog 112 #[.string s] w fun e w' => e = .returned (.int .i64 2) ∧ w' = w := by
  have ha : bits .and .i64 (c0.toNat : Int) 31 = ((c0.toNat % 32 : Nat) : Int) := and31 ⟨c0.toNat, c0.toNat_lt⟩
  go_enter Tryz.func112, Tryz.ntmps112
  go_wp2
  refine wp_loop_rounds 2 ?_
  rw [rounds_succ]
  go_wp2
  rw [rounds_succ]
  go_wp2
  go_ret
  exact ⟨rfl, rfl⟩

end Go.Proofs.YtkbinfhclaafhaaGreatDoor
