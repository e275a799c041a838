import Derived.Test.YtkbinfhclaafhaaGreatDoorSize
namespace Go.Proofs.YtkbinfhclaafhaaGreatDoor
open Go.RowKit

set_option maxRecDepth 100000 in
set_option maxHeartbeats 2000000 in
theorem size_short3 (s : ByteArray) (w : World) (c0 : UInt8) (h0 : 0 < s.size) (_hs : s.size ≤ 10000) (e0 : s[0]'h0 = c0) (_p0 : (224 : Int) ≤ (c0.toNat : Int)) (_p1 : (c0.toNat : Int) < 240) (_p2 : (s.size : Int) < 3) :
    Calls Tryz.prog 112 #[.string s] w fun e w' => e = .returned (.int .i64 0) ∧ w' = w := by
  go_enter Tryz.func112, Tryz.ntmps112
  go_wp2
  go_ret
  exact ⟨rfl, rfl⟩

set_option maxRecDepth 100000 in
set_option maxHeartbeats 2000000 in
theorem size_lo31 (s : ByteArray) (w : World) (c0 c1 : UInt8) (h0 : 0 < s.size) (h1 : 1 < s.size) (_hs : s.size ≤ 10000) (e0 : s[0]'h0 = c0) (e1 : s[1]'h1 = c1) (_p0 : (224 : Int) ≤ (c0.toNat : Int)) (_p1 : (c0.toNat : Int) < 240) (_p2 : (3 : Int) ≤ (s.size : Int)) (_p3 : (c1.toNat : Int) < 128) :
    Calls Tryz.prog 112 #[.string s] w fun e w' => e = .returned (.int .i64 0) ∧ w' = w := by
  have ha : bits .and .i64 (c0.toNat : Int) 15 = ((c0.toNat % 16 : Nat) : Int) := and15 ⟨c0.toNat, c0.toNat_lt⟩
  go_enter Tryz.func112, Tryz.ntmps112
  go_wp2
  refine wp_loop_rounds 1 ?_
  rw [rounds_succ]
  go_wp2
  go_ret
  exact ⟨rfl, rfl⟩

set_option maxRecDepth 100000 in
set_option maxHeartbeats 2000000 in
theorem size_hi31 (s : ByteArray) (w : World) (c0 c1 : UInt8) (h0 : 0 < s.size) (h1 : 1 < s.size) (_hs : s.size ≤ 10000) (e0 : s[0]'h0 = c0) (e1 : s[1]'h1 = c1) (_p0 : (224 : Int) ≤ (c0.toNat : Int)) (_p1 : (c0.toNat : Int) < 240) (_p2 : (3 : Int) ≤ (s.size : Int)) (_p3 : (191 : Int) < (c1.toNat : Int)) :
    Calls Tryz.prog 112 #[.string s] w fun e w' => e = .returned (.int .i64 0) ∧ w' = w := by
  have ha : bits .and .i64 (c0.toNat : Int) 15 = ((c0.toNat % 16 : Nat) : Int) := and15 ⟨c0.toNat, c0.toNat_lt⟩
  go_enter Tryz.func112, Tryz.ntmps112
  go_wp2
  refine wp_loop_rounds 1 ?_
  rw [rounds_succ]
  go_wp2
  go_ret
  exact ⟨rfl, rfl⟩

set_option maxRecDepth 100000 in
set_option maxHeartbeats 2000000 in
theorem size_lo32 (s : ByteArray) (w : World) (c0 c1 c2 : UInt8) (h0 : 0 < s.size) (h1 : 1 < s.size) (h2 : 2 < s.size) (_hs : s.size ≤ 10000) (e0 : s[0]'h0 = c0) (e1 : s[1]'h1 = c1) (e2 : s[2]'h2 = c2) (_p0 : (224 : Int) ≤ (c0.toNat : Int)) (_p1 : (c0.toNat : Int) < 240) (_p2 : (3 : Int) ≤ (s.size : Int)) (_p3 : (128 : Int) ≤ (c1.toNat : Int)) (_p4 : (c1.toNat : Int) ≤ 191) (_p5 : (c2.toNat : Int) < 128) :
    Calls Tryz.prog 112 #[.string s] w fun e w' => e = .returned (.int .i64 0) ∧ w' = w := by
  have ha : bits .and .i64 (c0.toNat : Int) 15 = ((c0.toNat % 16 : Nat) : Int) := and15 ⟨c0.toNat, c0.toNat_lt⟩
  go_enter Tryz.func112, Tryz.ntmps112
  go_wp2
  refine wp_loop_rounds 2 ?_
  rw [rounds_succ]
  go_wp2
  rw [rounds_succ]
  go_wp2
  go_ret
  exact ⟨rfl, rfl⟩

set_option maxRecDepth 100000 in
set_option maxHeartbeats 2000000 in
theorem size_hi32 (s : ByteArray) (w : World) (c0 c1 c2 : UInt8) (h0 : 0 < s.size) (h1 : 1 < s.size) (h2 : 2 < s.size) (_hs : s.size ≤ 10000) (e0 : s[0]'h0 = c0) (e1 : s[1]'h1 = c1) (e2 : s[2]'h2 = c2) (_p0 : (224 : Int) ≤ (c0.toNat : Int)) (_p1 : (c0.toNat : Int) < 240) (_p2 : (3 : Int) ≤ (s.size : Int)) (_p3 : (128 : Int) ≤ (c1.toNat : Int)) (_p4 : (c1.toNat : Int) ≤ 191) (_p5 : (191 : Int) < (c2.toNat : Int)) :
    Calls Tryz.prog 112 #[.string s] w fun e w' => e = .returned (.int .i64 0) ∧ w' = w := by
  have ha : bits .and .i64 (c0.toNat : Int) 15 = ((c0.toNat % 16 : Nat) : Int) := and15 ⟨c0.toNat, c0.toNat_lt⟩
  go_enter Tryz.func112, Tryz.ntmps112
  go_wp2
  refine wp_loop_rounds 2 ?_
  rw [rounds_succ]
  go_wp2
  rw [rounds_succ]
  go_wp2
  go_ret
  exact ⟨rfl, rfl⟩

set_option maxRecDepth 100000 in
set_option maxHeartbeats 2000000 in
theorem size_three_small (s : ByteArray) (w : World) (c0 c1 c2 : UInt8) (h0 : 0 < s.size) (h1 : 1 < s.size) (h2 : 2 < s.size) (_hs : s.size ≤ 10000) (e0 : s[0]'h0 = c0) (e1 : s[1]'h1 = c1) (e2 : s[2]'h2 = c2) (_p0 : (224 : Int) ≤ (c0.toNat : Int)) (_p1 : (c0.toNat : Int) < 240) (_p2 : (3 : Int) ≤ (s.size : Int)) (_p3 : (128 : Int) ≤ (c1.toNat : Int)) (_p4 : (c1.toNat : Int) ≤ 191) (_p5 : (128 : Int) ≤ (c2.toNat : Int)) (_p6 : (c2.toNat : Int) ≤ 191) (_p7 : 64 * (64 * ((c0.toNat : Int) % 16) + (c1.toNat : Int) - 128) + (c2.toNat : Int) - 128 < 2048) :
    Calls Tryz.prog 112 #[.string s] w fun e w' => e = .returned (.int .i64 0) ∧ w' = w := by
  have ha : bits .and .i64 (c0.toNat : Int) 15 = ((c0.toNat % 16 : Nat) : Int) := and15 ⟨c0.toNat, c0.toNat_lt⟩
  go_enter Tryz.func112, Tryz.ntmps112
  go_wp2
  refine wp_loop_rounds 3 ?_
  rw [rounds_succ]
  go_wp2
  rw [rounds_succ]
  go_wp2
  rw [rounds_succ]
  go_wp2
  go_ret
  exact ⟨rfl, rfl⟩

set_option maxRecDepth 100000 in
set_option maxHeartbeats 2000000 in
theorem size_three_sur (s : ByteArray) (w : World) (c0 c1 c2 : UInt8) (h0 : 0 < s.size) (h1 : 1 < s.size) (h2 : 2 < s.size) (_hs : s.size ≤ 10000) (e0 : s[0]'h0 = c0) (e1 : s[1]'h1 = c1) (e2 : s[2]'h2 = c2) (_p0 : (224 : Int) ≤ (c0.toNat : Int)) (_p1 : (c0.toNat : Int) < 240) (_p2 : (3 : Int) ≤ (s.size : Int)) (_p3 : (128 : Int) ≤ (c1.toNat : Int)) (_p4 : (c1.toNat : Int) ≤ 191) (_p5 : (128 : Int) ≤ (c2.toNat : Int)) (_p6 : (c2.toNat : Int) ≤ 191) (_p7 : (55296 : Int) ≤ 64 * (64 * ((c0.toNat : Int) % 16) + (c1.toNat : Int) - 128) + (c2.toNat : Int) - 128) (_p8 : 64 * (64 * ((c0.toNat : Int) % 16) + (c1.toNat : Int) - 128) + (c2.toNat : Int) - 128 ≤ 57343) :
    Calls Tryz.prog 112 #[.string s] w fun e w' => e = .returned (.int .i64 0) ∧ w' = w := by
  have ha : bits .and .i64 (c0.toNat : Int) 15 = ((c0.toNat % 16 : Nat) : Int) := and15 ⟨c0.toNat, c0.toNat_lt⟩
  go_enter Tryz.func112, Tryz.ntmps112
  go_wp2
  refine wp_loop_rounds 3 ?_
  rw [rounds_succ]
  go_wp2
  rw [rounds_succ]
  go_wp2
  rw [rounds_succ]
  go_wp2
  go_ret
  exact ⟨rfl, rfl⟩

set_option maxRecDepth 100000 in
set_option maxHeartbeats 2000000 in
theorem size_three_a (s : ByteArray) (w : World) (c0 c1 c2 : UInt8) (h0 : 0 < s.size) (h1 : 1 < s.size) (h2 : 2 < s.size) (_hs : s.size ≤ 10000) (e0 : s[0]'h0 = c0) (e1 : s[1]'h1 = c1) (e2 : s[2]'h2 = c2) (_p0 : (224 : Int) ≤ (c0.toNat : Int)) (_p1 : (c0.toNat : Int) < 240) (_p2 : (3 : Int) ≤ (s.size : Int)) (_p3 : (128 : Int) ≤ (c1.toNat : Int)) (_p4 : (c1.toNat : Int) ≤ 191) (_p5 : (128 : Int) ≤ (c2.toNat : Int)) (_p6 : (c2.toNat : Int) ≤ 191) (_p7 : (2048 : Int) ≤ 64 * (64 * ((c0.toNat : Int) % 16) + (c1.toNat : Int) - 128) + (c2.toNat : Int) - 128) (_p8 : 64 * (64 * ((c0.toNat : Int) % 16) + (c1.toNat : Int) - 128) + (c2.toNat : Int) - 128 < 55296) :
    Calls Tryz.prog 112 #[.string s] w fun e w' => e = .returned (.int .i64 3) ∧ w' = w := by
  have ha : bits .and .i64 (c0.toNat : Int) 15 = ((c0.toNat % 16 : Nat) : Int) := and15 ⟨c0.toNat, c0.toNat_lt⟩
  go_enter Tryz.func112, Tryz.ntmps112
  go_wp2
  refine wp_loop_rounds 3 ?_
  rw [rounds_succ]
  go_wp2
  rw [rounds_succ]
  go_wp2
  rw [rounds_succ]
  go_wp2
  go_ret
  exact ⟨rfl, rfl⟩

set_option maxRecDepth 100000 in
set_option maxHeartbeats 2000000 in
theorem size_three_b (s : ByteArray) (w : World) (c0 c1 c2 : UInt8) (h0 : 0 < s.size) (h1 : 1 < s.size) (h2 : 2 < s.size) (_hs : s.size ≤ 10000) (e0 : s[0]'h0 = c0) (e1 : s[1]'h1 = c1) (e2 : s[2]'h2 = c2) (_p0 : (224 : Int) ≤ (c0.toNat : Int)) (_p1 : (c0.toNat : Int) < 240) (_p2 : (3 : Int) ≤ (s.size : Int)) (_p3 : (128 : Int) ≤ (c1.toNat : Int)) (_p4 : (c1.toNat : Int) ≤ 191) (_p5 : (128 : Int) ≤ (c2.toNat : Int)) (_p6 : (c2.toNat : Int) ≤ 191) (_p7 : (57343 : Int) < 64 * (64 * ((c0.toNat : Int) % 16) + (c1.toNat : Int) - 128) + (c2.toNat : Int) - 128) :
    Calls Tryz.prog 112 #[.string s] w fun e w' => e = .returned (.int .i64 3) ∧ w' = w := by
  have ha : bits .and .i64 (c0.toNat : Int) 15 = ((c0.toNat % 16 : Nat) : Int) := and15 ⟨c0.toNat, c0.toNat_lt⟩
  go_enter Tryz.func112, Tryz.ntmps112
  go_wp2
  refine wp_loop_rounds 3 ?_
  rw [rounds_succ]
  go_wp2
  rw [rounds_succ]
  go_wp2
  rw [rounds_succ]
  go_wp2
  go_ret
  exact ⟨rfl, rfl⟩

end Go.Proofs.YtkbinfhclaafhaaGreatDoor
