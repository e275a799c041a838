import Derived.Test.YtkbinfhclaafhaaGreatDoorValid
import Derived.Test.YtkbinfhclaafhaaGreatDoorShelf
namespace Go.Proofs.YtkbinfhclaafhaaGreatDoor
open Go.RowKit

/-- The table of spans: first, last, class. -/
def spansL : List (Int × Int × Int) := [(1488, 1514, 1), (8207, 8207, 1), (1575, 1610, 2), (1564, 1564, 2), (48, 57, 3), (43, 43, 4), (45, 45, 4), (35, 37, 5), (8364, 8364, 5), (1632, 1641, 6), (44, 44, 7), (46, 47, 7), (58, 58, 7), (768, 879, 8), (1611, 1618, 8), (173, 173, 9), (8203, 8203, 9), (9, 9, 10), (32, 32, 11), (8195, 8195, 11), (33, 34, 12), (38, 42, 12), (59, 64, 12), (91, 96, 12), (123, 126, 12), (9001, 9002, 12), (12296, 12297, 12), (8234, 8234, 13), (8235, 8235, 14), (8237, 8237, 15), (8238, 8238, 16), (8236, 8236, 17), (8294, 8294, 18), (8295, 8295, 19), (8296, 8296, 20), (8297, 8297, 21)]
def spansV : Array Value := #[.int .i32 1488, .int .i32 1514, .int .i64 1, .int .i32 8207, .int .i32 8207, .int .i64 1, .int .i32 1575, .int .i32 1610, .int .i64 2, .int .i32 1564, .int .i32 1564, .int .i64 2, .int .i32 48, .int .i32 57, .int .i64 3, .int .i32 43, .int .i32 43, .int .i64 4, .int .i32 45, .int .i32 45, .int .i64 4, .int .i32 35, .int .i32 37, .int .i64 5, .int .i32 8364, .int .i32 8364, .int .i64 5, .int .i32 1632, .int .i32 1641, .int .i64 6, .int .i32 44, .int .i32 44, .int .i64 7, .int .i32 46, .int .i32 47, .int .i64 7, .int .i32 58, .int .i32 58, .int .i64 7, .int .i32 768, .int .i32 879, .int .i64 8, .int .i32 1611, .int .i32 1618, .int .i64 8, .int .i32 173, .int .i32 173, .int .i64 9, .int .i32 8203, .int .i32 8203, .int .i64 9, .int .i32 9, .int .i32 9, .int .i64 10, .int .i32 32, .int .i32 32, .int .i64 11, .int .i32 8195, .int .i32 8195, .int .i64 11, .int .i32 33, .int .i32 34, .int .i64 12, .int .i32 38, .int .i32 42, .int .i64 12, .int .i32 59, .int .i32 64, .int .i64 12, .int .i32 91, .int .i32 96, .int .i64 12, .int .i32 123, .int .i32 126, .int .i64 12, .int .i32 9001, .int .i32 9002, .int .i64 12, .int .i32 12296, .int .i32 12297, .int .i64 12, .int .i32 8234, .int .i32 8234, .int .i64 13, .int .i32 8235, .int .i32 8235, .int .i64 14, .int .i32 8237, .int .i32 8237, .int .i64 15, .int .i32 8238, .int .i32 8238, .int .i64 16, .int .i32 8236, .int .i32 8236, .int .i64 17, .int .i32 8294, .int .i32 8294, .int .i64 18, .int .i32 8295, .int .i32 8295, .int .i64 19, .int .i32 8296, .int .i32 8296, .int .i64 20, .int .i32 8297, .int .i32 8297, .int .i64 21]

theorem idx_span : ∀ (k : Nat) (_hk : k < 36) (w : World), (Instr.index 176 (.agg spansV) (.int .i64 k)).run Tryz.prog w = .ok (.agg #[.int .i32 (spansL.getD k (0, 0, 0)).1, .int .i32 (spansL.getD k (0, 0, 0)).2.1, .int .i64 (spansL.getD k (0, 0, 0)).2.2]) w
  | 0, _, _ => by kernel_rfl
  | 1, _, _ => by kernel_rfl
  | 2, _, _ => by kernel_rfl
  | 3, _, _ => by kernel_rfl
  | 4, _, _ => by kernel_rfl
  | 5, _, _ => by kernel_rfl
  | 6, _, _ => by kernel_rfl
  | 7, _, _ => by kernel_rfl
  | 8, _, _ => by kernel_rfl
  | 9, _, _ => by kernel_rfl
  | 10, _, _ => by kernel_rfl
  | 11, _, _ => by kernel_rfl
  | 12, _, _ => by kernel_rfl
  | 13, _, _ => by kernel_rfl
  | 14, _, _ => by kernel_rfl
  | 15, _, _ => by kernel_rfl
  | 16, _, _ => by kernel_rfl
  | 17, _, _ => by kernel_rfl
  | 18, _, _ => by kernel_rfl
  | 19, _, _ => by kernel_rfl
  | 20, _, _ => by kernel_rfl
  | 21, _, _ => by kernel_rfl
  | 22, _, _ => by kernel_rfl
  | 23, _, _ => by kernel_rfl
  | 24, _, _ => by kernel_rfl
  | 25, _, _ => by kernel_rfl
  | 26, _, _ => by kernel_rfl
  | 27, _, _ => by kernel_rfl
  | 28, _, _ => by kernel_rfl
  | 29, _, _ => by kernel_rfl
  | 30, _, _ => by kernel_rfl
  | 31, _, _ => by kernel_rfl
  | 32, _, _ => by kernel_rfl
  | 33, _, _ => by kernel_rfl
  | 34, _, _ => by kernel_rfl
  | 35, _, _ => by kernel_rfl
  | n + 36, h, _ => absurd h (by omega)

theorem onSigns : bytesI { data := #[33, 34, 38, 39, 40, 41, 42, 59, 60, 61, 62, 63, 64, 91, 92, 93, 94, 95, 96, 123, 124, 125, 126] } = [33, 34, 38, 39, 40, 41, 42, 59, 60, 61, 62, 63, 64, 91, 92, 93, 94, 95, 96, 123, 124, 125, 126] := by decide

theorem cls_hit (r : Int) (k : Nat) (hk : k < 36) (h1 : (spansL.getD k (0, 0, 0)).1 ≤ r) (h2 : r ≤ (spansL.getD k (0, 0, 0)).2.1) : cls r = (spansL.getD k (0, 0, 0)).2.2 := by
  match k, hk, h1, h2 with
  | 0, _, h1, h2 =>
    have h1 : (1488 : Int) ≤ r := h1
    have h2 : r ≤ 1514 := h2
    show cls r = 1
    exact cls_0 (by omega)
  | 1, _, h1, h2 =>
    have h1 : (8207 : Int) ≤ r := h1
    have h2 : r ≤ 8207 := h2
    show cls r = 1
    exact cls_0 (by omega)
  | 2, _, h1, h2 =>
    have h1 : (1575 : Int) ≤ r := h1
    have h2 : r ≤ 1610 := h2
    show cls r = 2
    exact cls_1 (by omega)
  | 3, _, h1, h2 =>
    have h1 : (1564 : Int) ≤ r := h1
    have h2 : r ≤ 1564 := h2
    show cls r = 2
    exact cls_1 (by omega)
  | 4, _, h1, h2 =>
    have h1 : (48 : Int) ≤ r := h1
    have h2 : r ≤ 57 := h2
    show cls r = 3
    exact cls_2 (by omega)
  | 5, _, h1, h2 =>
    have h1 : (43 : Int) ≤ r := h1
    have h2 : r ≤ 43 := h2
    show cls r = 4
    exact cls_3 (by omega)
  | 6, _, h1, h2 =>
    have h1 : (45 : Int) ≤ r := h1
    have h2 : r ≤ 45 := h2
    show cls r = 4
    exact cls_3 (by omega)
  | 7, _, h1, h2 =>
    have h1 : (35 : Int) ≤ r := h1
    have h2 : r ≤ 37 := h2
    show cls r = 5
    have h : r = 35 ∨ r = 36 ∨ r = 37 := by omega
    rcases h with rfl | rfl | rfl <;> decide
  | 8, _, h1, h2 =>
    have h1 : (8364 : Int) ≤ r := h1
    have h2 : r ≤ 8364 := h2
    show cls r = 5
    have h : r = 8364 := by omega
    subst h; decide
  | 9, _, h1, h2 =>
    have h1 : (1632 : Int) ≤ r := h1
    have h2 : r ≤ 1641 := h2
    show cls r = 6
    exact cls_4 (by omega)
  | 10, _, h1, h2 =>
    have h1 : (44 : Int) ≤ r := h1
    have h2 : r ≤ 44 := h2
    show cls r = 7
    have h : r = 44 := by omega
    subst h; decide
  | 11, _, h1, h2 =>
    have h1 : (46 : Int) ≤ r := h1
    have h2 : r ≤ 47 := h2
    show cls r = 7
    have h : r = 46 ∨ r = 47 := by omega
    rcases h with rfl | rfl <;> decide
  | 12, _, h1, h2 =>
    have h1 : (58 : Int) ≤ r := h1
    have h2 : r ≤ 58 := h2
    show cls r = 7
    have h : r = 58 := by omega
    subst h; decide
  | 13, _, h1, h2 =>
    have h1 : (768 : Int) ≤ r := h1
    have h2 : r ≤ 879 := h2
    show cls r = 8
    exact cls_5 (by omega)
  | 14, _, h1, h2 =>
    have h1 : (1611 : Int) ≤ r := h1
    have h2 : r ≤ 1618 := h2
    show cls r = 8
    exact cls_5 (by omega)
  | 15, _, h1, h2 =>
    have h1 : (173 : Int) ≤ r := h1
    have h2 : r ≤ 173 := h2
    show cls r = 9
    exact cls_6 (by omega)
  | 16, _, h1, h2 =>
    have h1 : (8203 : Int) ≤ r := h1
    have h2 : r ≤ 8203 := h2
    show cls r = 9
    exact cls_6 (by omega)
  | 17, _, h1, h2 =>
    have h1 : (9 : Int) ≤ r := h1
    have h2 : r ≤ 9 := h2
    show cls r = 10
    exact cls_7 (by omega)
  | 18, _, h1, h2 =>
    have h1 : (32 : Int) ≤ r := h1
    have h2 : r ≤ 32 := h2
    show cls r = 11
    exact cls_8 (by omega)
  | 19, _, h1, h2 =>
    have h1 : (8195 : Int) ≤ r := h1
    have h2 : r ≤ 8195 := h2
    show cls r = 11
    exact cls_8 (by omega)
  | 20, _, h1, h2 =>
    have h1 : (33 : Int) ≤ r := h1
    have h2 : r ≤ 34 := h2
    show cls r = 12
    have h : r = 33 ∨ r = 34 := by omega
    rcases h with rfl | rfl <;> decide
  | 21, _, h1, h2 =>
    have h1 : (38 : Int) ≤ r := h1
    have h2 : r ≤ 42 := h2
    show cls r = 12
    have h : r = 38 ∨ r = 39 ∨ r = 40 ∨ r = 41 ∨ r = 42 := by omega
    rcases h with rfl | rfl | rfl | rfl | rfl <;> decide
  | 22, _, h1, h2 =>
    have h1 : (59 : Int) ≤ r := h1
    have h2 : r ≤ 64 := h2
    show cls r = 12
    have h : r = 59 ∨ r = 60 ∨ r = 61 ∨ r = 62 ∨ r = 63 ∨ r = 64 := by omega
    rcases h with rfl | rfl | rfl | rfl | rfl | rfl <;> decide
  | 23, _, h1, h2 =>
    have h1 : (91 : Int) ≤ r := h1
    have h2 : r ≤ 96 := h2
    show cls r = 12
    have h : r = 91 ∨ r = 92 ∨ r = 93 ∨ r = 94 ∨ r = 95 ∨ r = 96 := by omega
    rcases h with rfl | rfl | rfl | rfl | rfl | rfl <;> decide
  | 24, _, h1, h2 =>
    have h1 : (123 : Int) ≤ r := h1
    have h2 : r ≤ 126 := h2
    show cls r = 12
    have h : r = 123 ∨ r = 124 ∨ r = 125 ∨ r = 126 := by omega
    rcases h with rfl | rfl | rfl | rfl <;> decide
  | 25, _, h1, h2 =>
    have h1 : (9001 : Int) ≤ r := h1
    have h2 : r ≤ 9002 := h2
    show cls r = 12
    have h : r = 9001 ∨ r = 9002 := by omega
    rcases h with rfl | rfl <;> decide
  | 26, _, h1, h2 =>
    have h1 : (12296 : Int) ≤ r := h1
    have h2 : r ≤ 12297 := h2
    show cls r = 12
    have h : r = 12296 ∨ r = 12297 := by omega
    rcases h with rfl | rfl <;> decide
  | 27, _, h1, h2 =>
    have h1 : (8234 : Int) ≤ r := h1
    have h2 : r ≤ 8234 := h2
    show cls r = 13
    have h : r = 8234 := by omega
    subst h; decide
  | 28, _, h1, h2 =>
    have h1 : (8235 : Int) ≤ r := h1
    have h2 : r ≤ 8235 := h2
    show cls r = 14
    have h : r = 8235 := by omega
    subst h; decide
  | 29, _, h1, h2 =>
    have h1 : (8237 : Int) ≤ r := h1
    have h2 : r ≤ 8237 := h2
    show cls r = 15
    have h : r = 8237 := by omega
    subst h; decide
  | 30, _, h1, h2 =>
    have h1 : (8238 : Int) ≤ r := h1
    have h2 : r ≤ 8238 := h2
    show cls r = 16
    have h : r = 8238 := by omega
    subst h; decide
  | 31, _, h1, h2 =>
    have h1 : (8236 : Int) ≤ r := h1
    have h2 : r ≤ 8236 := h2
    show cls r = 17
    have h : r = 8236 := by omega
    subst h; decide
  | 32, _, h1, h2 =>
    have h1 : (8294 : Int) ≤ r := h1
    have h2 : r ≤ 8294 := h2
    show cls r = 18
    exact (cls_9 (by omega)).trans (by omega)
  | 33, _, h1, h2 =>
    have h1 : (8295 : Int) ≤ r := h1
    have h2 : r ≤ 8295 := h2
    show cls r = 19
    exact (cls_9 (by omega)).trans (by omega)
  | 34, _, h1, h2 =>
    have h1 : (8296 : Int) ≤ r := h1
    have h2 : r ≤ 8296 := h2
    show cls r = 20
    exact (cls_9 (by omega)).trans (by omega)
  | 35, _, h1, h2 =>
    have h1 : (8297 : Int) ≤ r := h1
    have h2 : r ≤ 8297 := h2
    show cls r = 21
    exact (cls_9 (by omega)).trans (by omega)
  | n + 36, h, _, _ => exact absurd h (by omega)

theorem among_no {r : Int} {l : List Int} (h : ∀ x ∈ l, r ≠ x) : amongB r l = false := by
  unfold amongB
  rw [List.contains_eq_mem, decide_eq_false_iff_not]
  exact fun hm => h r hm rfl
theorem cls_miss (r : Int) (h : ∀ k, k < 36 → ¬ ((spansL.getD k (0, 0, 0)).1 ≤ r ∧ r ≤ (spansL.getD k (0, 0, 0)).2.1)) : cls r = 0 := by
  have g0 : ¬ ((1488 : Int) ≤ r ∧ r ≤ 1514) := h 0 (by decide)
  have g1 : ¬ ((8207 : Int) ≤ r ∧ r ≤ 8207) := h 1 (by decide)
  have g2 : ¬ ((1575 : Int) ≤ r ∧ r ≤ 1610) := h 2 (by decide)
  have g3 : ¬ ((1564 : Int) ≤ r ∧ r ≤ 1564) := h 3 (by decide)
  have g4 : ¬ ((48 : Int) ≤ r ∧ r ≤ 57) := h 4 (by decide)
  have g5 : ¬ ((43 : Int) ≤ r ∧ r ≤ 43) := h 5 (by decide)
  have g6 : ¬ ((45 : Int) ≤ r ∧ r ≤ 45) := h 6 (by decide)
  have g7 : ¬ ((35 : Int) ≤ r ∧ r ≤ 37) := h 7 (by decide)
  have g8 : ¬ ((8364 : Int) ≤ r ∧ r ≤ 8364) := h 8 (by decide)
  have g9 : ¬ ((1632 : Int) ≤ r ∧ r ≤ 1641) := h 9 (by decide)
  have g10 : ¬ ((44 : Int) ≤ r ∧ r ≤ 44) := h 10 (by decide)
  have g11 : ¬ ((46 : Int) ≤ r ∧ r ≤ 47) := h 11 (by decide)
  have g12 : ¬ ((58 : Int) ≤ r ∧ r ≤ 58) := h 12 (by decide)
  have g13 : ¬ ((768 : Int) ≤ r ∧ r ≤ 879) := h 13 (by decide)
  have g14 : ¬ ((1611 : Int) ≤ r ∧ r ≤ 1618) := h 14 (by decide)
  have g15 : ¬ ((173 : Int) ≤ r ∧ r ≤ 173) := h 15 (by decide)
  have g16 : ¬ ((8203 : Int) ≤ r ∧ r ≤ 8203) := h 16 (by decide)
  have g17 : ¬ ((9 : Int) ≤ r ∧ r ≤ 9) := h 17 (by decide)
  have g18 : ¬ ((32 : Int) ≤ r ∧ r ≤ 32) := h 18 (by decide)
  have g19 : ¬ ((8195 : Int) ≤ r ∧ r ≤ 8195) := h 19 (by decide)
  have g20 : ¬ ((33 : Int) ≤ r ∧ r ≤ 34) := h 20 (by decide)
  have g21 : ¬ ((38 : Int) ≤ r ∧ r ≤ 42) := h 21 (by decide)
  have g22 : ¬ ((59 : Int) ≤ r ∧ r ≤ 64) := h 22 (by decide)
  have g23 : ¬ ((91 : Int) ≤ r ∧ r ≤ 96) := h 23 (by decide)
  have g24 : ¬ ((123 : Int) ≤ r ∧ r ≤ 126) := h 24 (by decide)
  have g25 : ¬ ((9001 : Int) ≤ r ∧ r ≤ 9002) := h 25 (by decide)
  have g26 : ¬ ((12296 : Int) ≤ r ∧ r ≤ 12297) := h 26 (by decide)
  have g27 : ¬ ((8234 : Int) ≤ r ∧ r ≤ 8234) := h 27 (by decide)
  have g28 : ¬ ((8235 : Int) ≤ r ∧ r ≤ 8235) := h 28 (by decide)
  have g29 : ¬ ((8237 : Int) ≤ r ∧ r ≤ 8237) := h 29 (by decide)
  have g30 : ¬ ((8238 : Int) ≤ r ∧ r ≤ 8238) := h 30 (by decide)
  have g31 : ¬ ((8236 : Int) ≤ r ∧ r ≤ 8236) := h 31 (by decide)
  have g32 : ¬ ((8294 : Int) ≤ r ∧ r ≤ 8294) := h 32 (by decide)
  have g33 : ¬ ((8295 : Int) ≤ r ∧ r ≤ 8295) := h 33 (by decide)
  have g34 : ¬ ((8296 : Int) ≤ r ∧ r ≤ 8296) := h 34 (by decide)
  have g35 : ¬ ((8297 : Int) ≤ r ∧ r ≤ 8297) := h 35 (by decide)
  clear h
  have hB : Between r := by unfold Between; omega
  rw [cls_between hB, onSigns]
  have a1 : amongB r [35, 36, 37, 8364] = false := among_no (by simp only [List.mem_cons, List.not_mem_nil, or_false, forall_eq_or_imp, forall_eq]; omega)
  have a2 : amongB r [44, 46, 47, 58] = false := among_no (by simp only [List.mem_cons, List.not_mem_nil, or_false, forall_eq_or_imp, forall_eq]; omega)
  have a3 : amongB r [33, 34, 38, 39, 40, 41, 42, 59, 60, 61, 62, 63, 64, 91, 92, 93, 94, 95, 96, 123, 124, 125, 126] = false := among_no (by simp only [List.mem_cons, List.not_mem_nil, or_false, forall_eq_or_imp, forall_eq]; omega)
  have a4 : amongB r [9001, 9002, 12296, 12297] = false := among_no (by simp only [List.mem_cons, List.not_mem_nil, or_false, forall_eq_or_imp, forall_eq]; omega)
  rw [a1, a2, a3, a4, if_neg (by decide), if_neg (by decide), if_neg (by decide), if_neg (by omega), if_neg (by omega), if_neg (by omega), if_neg (by omega), if_neg (by omega)]
end Go.Proofs.YtkbinfhclaafhaaGreatDoor
