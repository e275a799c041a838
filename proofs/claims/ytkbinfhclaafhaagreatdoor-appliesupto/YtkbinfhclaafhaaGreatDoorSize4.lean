import Derived.Test.YtkbinfhclaafhaaGreatDoorSize
namespace Go.Proofs.YtkbinfhclaafhaaGreatDoor
open Go.RowKit

set_option maxRecDepth 100000 in
set_option maxHeartbeats 2000000 in
theorem size_short4 (s : ByteArray) (w : World) (c0 : UInt8) (h0 : 0 < s.size) (_hs : s.size ≤ 10000) (e0 : s[0]'h0 = c0) (_p0 : (240 : Int) ≤ (c0.toNat : Int)) (_p1 : (c0.toNat : Int) < 245) (_p2 : (s.size : Int) < 4) :
    Calls Tryz.prog 112 #[.string s] w fun e w' => e = .returned (.int .i64 0) ∧ w' = w := by
  go_enter Tryz.func112, Tryz.ntmps112
  go_wp2
  go_ret
  exact ⟨rfl, rfl⟩

set_option maxRecDepth 100000 in
set_option maxHeartbeats 2000000 in
theorem size_lo41 (s : ByteArray) (w : World) (c0 c1 : UInt8) (h0 : 0 < s.size) (h1 : 1 < s.size) (_hs : s.size ≤ 10000) (e0 : s[0]'h0 = c0) (e1 : s[1]'h1 = c1) (_p0 : (240 : Int) ≤ (c0.toNat : Int)) (_p1 : (c0.toNat : Int) < 245) (_p2 : (4 : Int) ≤ (s.size : Int)) (_p3 : (c1.toNat : Int) < 128) :
    Calls Tryz.prog 112 #[.string s] w fun e w' => e = .returned (.int .i64 0) ∧ w' = w := by
  have ha : bits .and .i64 (c0.toNat : Int) 7 = ((c0.toNat % 8 : Nat) : Int) := and7i ⟨c0.toNat, c0.toNat_lt⟩
  go_enter Tryz.func112, Tryz.ntmps112
  go_wp2
  refine wp_loop_rounds 1 ?_
  rw [rounds_succ]
  go_wp2
  go_ret
  exact ⟨rfl, rfl⟩

set_option maxRecDepth 100000 in
set_option maxHeartbeats 2000000 in
theorem size_hi41 (s : ByteArray) (w : World) (c0 c1 : UInt8) (h0 : 0 < s.size) (h1 : 1 < s.size) (_hs : s.size ≤ 10000) (e0 : s[0]'h0 = c0) (e1 : s[1]'h1 = c1) (_p0 : (240 : Int) ≤ (c0.toNat : Int)) (_p1 : (c0.toNat : Int) < 245) (_p2 : (4 : Int) ≤ (s.size : Int)) (_p3 : (191 : Int) < (c1.toNat : Int)) :
    Calls Tryz.prog 112 #[.string s] w fun e w' => e = .returned (.int .i64 0) ∧ w' = w := by
  have ha : bits .and .i64 (c0.toNat : Int) 7 = ((c0.toNat % 8 : Nat) : Int) := and7i ⟨c0.toNat, c0.toNat_lt⟩
  go_enter Tryz.func112, Tryz.ntmps112
  go_wp2
  refine wp_loop_rounds 1 ?_
  rw [rounds_succ]
  go_wp2
  go_ret
  exact ⟨rfl, rfl⟩

set_option maxRecDepth 100000 in
set_option maxHeartbeats 2000000 in
theorem size_lo42 (s : ByteArray) (w : World) (c0 c1 c2 : UInt8) (h0 : 0 < s.size) (h1 : 1 < s.size) (h2 : 2 < s.size) (_hs : s.size ≤ 10000) (e0 : s[0]'h0 = c0) (e1 : s[1]'h1 = c1) (e2 : s[2]'h2 = c2) (_p0 : (240 : Int) ≤ (c0.toNat : Int)) (_p1 : (c0.toNat : Int) < 245) (_p2 : (4 : Int) ≤ (s.size : Int)) (_p3 : (128 : Int) ≤ (c1.toNat : Int)) (_p4 : (c1.toNat : Int) ≤ 191) (_p5 : (c2.toNat : Int) < 128) :
    Calls Tryz.prog 112 #[.string s] w fun e w' => e = .returned (.int .i64 0) ∧ w' = w := by
  have ha : bits .and .i64 (c0.toNat : Int) 7 = ((c0.toNat % 8 : Nat) : Int) := and7i ⟨c0.toNat, c0.toNat_lt⟩
  go_enter Tryz.func112, Tryz.ntmps112
  go_wp2
  refine wp_loop_rounds 2 ?_
  rw [rounds_succ]
  go_wp2
  rw [rounds_succ]
  go_wp2
  go_ret
  exact ⟨rfl, rfl⟩

set_option maxRecDepth 100000 in
set_option maxHeartbeats 2000000 in
theorem size_hi42 (s : ByteArray) (w : World) (c0 c1 c2 : UInt8) (h0 : 0 < s.size) (h1 : 1 < s.size) (h2 : 2 < s.size) (_hs : s.size ≤ 10000) (e0 : s[0]'h0 = c0) (e1 : s[1]'h1 = c1) (e2 : s[2]'h2 = c2) (_p0 : (240 : Int) ≤ (c0.toNat : Int)) (_p1 : (c0.toNat : Int) < 245) (_p2 : (4 : Int) ≤ (s.size : Int)) (_p3 : (128 : Int) ≤ (c1.toNat : Int)) (_p4 : (c1.toNat : Int) ≤ 191) (_p5 : (191 : Int) < (c2.toNat : Int)) :
    Calls Tryz.prog 112 #[.string s] w fun e w' => e = .returned (.int .i64 0) ∧ w' = w := by
  have ha : bits .and .i64 (c0.toNat : Int) 7 = ((c0.toNat % 8 : Nat) : Int) := and7i ⟨c0.toNat, c0.toNat_lt⟩
  go_enter Tryz.func112, Tryz.ntmps112
  go_wp2
  refine wp_loop_rounds 2 ?_
  rw [rounds_succ]
  go_wp2
  rw [rounds_succ]
  go_wp2
  go_ret
  exact ⟨rfl, rfl⟩

set_option maxRecDepth 100000 in
set_option maxHeartbeats 2000000 in
theorem size_lo43 (s : ByteArray) (w : World) (c0 c1 c2 c3 : UInt8) (h0 : 0 < s.size) (h1 : 1 < s.size) (h2 : 2 < s.size) (h3 : 3 < s.size) (_hs : s.size ≤ 10000) (e0 : s[0]'h0 = c0) (e1 : s[1]'h1 = c1) (e2 : s[2]'h2 = c2) (e3 : s[3]'h3 = c3) (_p0 : (240 : Int) ≤ (c0.toNat : Int)) (_p1 : (c0.toNat : Int) < 245) (_p2 : (4 : Int) ≤ (s.size : Int)) (_p3 : (128 : Int) ≤ (c1.toNat : Int)) (_p4 : (c1.toNat : Int) ≤ 191) (_p5 : (128 : Int) ≤ (c2.toNat : Int)) (_p6 : (c2.toNat : Int) ≤ 191) (_p7 : (c3.toNat : Int) < 128) :
    Calls Tryz.prog 112 #[.string s] w fun e w' => e = .returned (.int .i64 0) ∧ w' = w := by
  have ha : bits .and .i64 (c0.toNat : Int) 7 = ((c0.toNat % 8 : Nat) : Int) := and7i ⟨c0.toNat, c0.toNat_lt⟩
  go_enter Tryz.func112, Tryz.ntmps112
  go_wp2
  refine wp_loop_rounds 3 ?_
  rw [rounds_succ]
  go_wp2
  rw [rounds_succ]
  go_wp2
  rw [rounds_succ]
  go_wp2
  go_ret
  exact ⟨rfl, rfl⟩

set_option maxRecDepth 100000 in
set_option maxHeartbeats 2000000 in
theorem size_hi43 (s : ByteArray) (w : World) (c0 c1 c2 c3 : UInt8) (h0 : 0 < s.size) (h1 : 1 < s.size) (h2 : 2 < s.size) (h3 : 3 < s.size) (_hs : s.size ≤ 10000) (e0 : s[0]'h0 = c0) (e1 : s[1]'h1 = c1) (e2 : s[2]'h2 = c2) (e3 : s[3]'h3 = c3) (_p0 : (240 : Int) ≤ (c0.toNat : Int)) (_p1 : (c0.toNat : Int) < 245) (_p2 : (4 : Int) ≤ (s.size : Int)) (_p3 : (128 : Int) ≤ (c1.toNat : Int)) (_p4 : (c1.toNat : Int) ≤ 191) (_p5 : (128 : Int) ≤ (c2.toNat : Int)) (_p6 : (c2.toNat : Int) ≤ 191) (_p7 : (191 : Int) < (c3.toNat : Int)) :
    Calls Tryz.prog 112 #[.string s] w fun e w' => e = .returned (.int .i64 0) ∧ w' = w := by
  have ha : bits .and .i64 (c0.toNat : Int) 7 = ((c0.toNat % 8 : Nat) : Int) := and7i ⟨c0.toNat, c0.toNat_lt⟩
  go_enter Tryz.func112, Tryz.ntmps112
  go_wp2
  refine wp_loop_rounds 3 ?_
  rw [rounds_succ]
  go_wp2
  rw [rounds_succ]
  go_wp2
  rw [rounds_succ]
  go_wp2
  go_ret
  exact ⟨rfl, rfl⟩

set_option maxRecDepth 100000 in
set_option maxHeartbeats 2000000 in
theorem size_four_small (s : ByteArray) (w : World) (c0 c1 c2 c3 : UInt8) (h0 : 0 < s.size) (h1 : 1 < s.size) (h2 : 2 < s.size) (h3 : 3 < s.size) (_hs : s.size ≤ 10000) (e0 : s[0]'h0 = c0) (e1 : s[1]'h1 = c1) (e2 : s[2]'h2 = c2) (e3 : s[3]'h3 = c3) (_p0 : (240 : Int) ≤ (c0.toNat : Int)) (_p1 : (c0.toNat : Int) < 245) (_p2 : (4 : Int) ≤ (s.size : Int)) (_p3 : (128 : Int) ≤ (c1.toNat : Int)) (_p4 : (c1.toNat : Int) ≤ 191) (_p5 : (128 : Int) ≤ (c2.toNat : Int)) (_p6 : (c2.toNat : Int) ≤ 191) (_p7 : (128 : Int) ≤ (c3.toNat : Int)) (_p8 : (c3.toNat : Int) ≤ 191) (_p9 : 64 * (64 * (64 * ((c0.toNat : Int) % 8) + (c1.toNat : Int) - 128) + (c2.toNat : Int) - 128) + (c3.toNat : Int) - 128 < 65536) :
    Calls Tryz.prog 112 #[.string s] w fun e w' => e = .returned (.int .i64 0) ∧ w' = w := by
  have ha : bits .and .i64 (c0.toNat : Int) 7 = ((c0.toNat % 8 : Nat) : Int) := and7i ⟨c0.toNat, c0.toNat_lt⟩
  go_enter Tryz.func112, Tryz.ntmps112
  go_wp2
  refine wp_loop_rounds 4 ?_
  rw [rounds_succ]
  go_wp2
  rw [rounds_succ]
  go_wp2
  rw [rounds_succ]
  go_wp2
  rw [rounds_succ]
  go_wp2
  go_ret
  exact ⟨rfl, rfl⟩

set_option maxRecDepth 100000 in
set_option maxHeartbeats 2000000 in
theorem size_four_big (s : ByteArray) (w : World) (c0 c1 c2 c3 : UInt8) (h0 : 0 < s.size) (h1 : 1 < s.size) (h2 : 2 < s.size) (h3 : 3 < s.size) (_hs : s.size ≤ 10000) (e0 : s[0]'h0 = c0) (e1 : s[1]'h1 = c1) (e2 : s[2]'h2 = c2) (e3 : s[3]'h3 = c3) (_p0 : (240 : Int) ≤ (c0.toNat : Int)) (_p1 : (c0.toNat : Int) < 245) (_p2 : (4 : Int) ≤ (s.size : Int)) (_p3 : (128 : Int) ≤ (c1.toNat : Int)) (_p4 : (c1.toNat : Int) ≤ 191) (_p5 : (128 : Int) ≤ (c2.toNat : Int)) (_p6 : (c2.toNat : Int) ≤ 191) (_p7 : (128 : Int) ≤ (c3.toNat : Int)) (_p8 : (c3.toNat : Int) ≤ 191) (_p9 : (1114111 : Int) < 64 * (64 * (64 * ((c0.toNat : Int) % 8) + (c1.toNat : Int) - 128) + (c2.toNat : Int) - 128) + (c3.toNat : Int) - 128) :
    Calls Tryz.prog 112 #[.string s] w fun e w' => e = .returned (.int .i64 0) ∧ w' = w := by
  have ha : bits .and .i64 (c0.toNat : Int) 7 = ((c0.toNat % 8 : Nat) : Int) := and7i ⟨c0.toNat, c0.toNat_lt⟩
  go_enter Tryz.func112, Tryz.ntmps112
  go_wp2
  refine wp_loop_rounds 4 ?_
  rw [rounds_succ]
  go_wp2
  rw [rounds_succ]
  go_wp2
  rw [rounds_succ]
  go_wp2
  rw [rounds_succ]
  go_wp2
  go_ret
  exact ⟨rfl, rfl⟩

set_option maxRecDepth 100000 in
set_option maxHeartbeats 2000000 in
theorem size_four (s : ByteArray) (w : World) (c0 c1 c2 c3 : UInt8) (h0 : 0 < s.size) (h1 : 1 < s.size) (h2 : 2 < s.size) (h3 : 3 < s.size) (_hs : s.size ≤ 10000) (e0 : s[0]'h0 = c0) (e1 : s[1]'h1 = c1) (e2 : s[2]'h2 = c2) (e3 : s[3]'h3 = c3) (_p0 : (240 : Int) ≤ (c0.toNat : Int)) (_p1 : (c0.toNat : Int) < 245) (_p2 : (4 : Int) ≤ (s.size : Int)) (_p3 : (128 : Int) ≤ (c1.toNat : Int)) (_p4 : (c1.toNat : Int) ≤ 191) (_p5 : (128 : Int) ≤ (c2.toNat : Int)) (_p6 : (c2.toNat : Int) ≤ 191) (_p7 : (128 : Int) ≤ (c3.toNat : Int)) (_p8 : (c3.toNat : Int) ≤ 191) (_p9 : (65536 : Int) ≤ 64 * (64 * (64 * ((c0.toNat : Int) % 8) + (c1.toNat : Int) - 128) + (c2.toNat : Int) - 128) + (c3.toNat : Int) - 128) (p10 : 64 * (64 * (64 * ((c0.toNat : Int) % 8) + (c1.toNat : Int) - 128) + (c2.toNat : Int) - 128) + (c3.toNat : Int) - 128 ≤ 1114111) :
    Calls Tryz.prog 112 #[.string s] w fun e w' => e = .returned (.int .i64 4) ∧ w' = w := by
  have ha : bits .and .i64 (c0.toNat : Int) 7 = ((c0.toNat % 8 : Nat) : Int) := and7i ⟨c0.toNat, c0.toNat_lt⟩
  go_enter Tryz.func112, Tryz.ntmps112
  go_wp2
  refine wp_loop_rounds 4 ?_
  rw [rounds_succ]
  go_wp2
  rw [rounds_succ]
  go_wp2
  rw [rounds_succ]
  go_wp2
  rw [rounds_succ]
  go_wp2
  go_ret
  exact ⟨rfl, rfl⟩
end Go.Proofs.YtkbinfhclaafhaaGreatDoor
