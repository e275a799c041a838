import Derived.Test.YtkbinfhclaafhaaGreatDoorEqU
namespace Go.Proofs.YtkbinfhclaafhaaGreatDoor
open Go.RowKit

/-! The document's within and begins. -/
theorem within_any (p lo hi : Nat) (w : World) : Calls Tryz.prog 76 #[.int .i64 p, .int .i64 lo, .int .i64 hi] w fun e w' => e = .returned (.int .i64 (wi p lo hi : Nat)) ∧ w' = w := by
  unfold wi
  by_cases h1 : p < lo
  · have h1' : (p : Int) < (lo : Int) := by omega
    rw [if_pos h1]
    clear h1
    go_enter Tryz.func76, Tryz.ntmps76
    go_wp2
    go_ret
    exact ⟨rfl, rfl⟩
  · have h1' : ¬ (p : Int) < (lo : Int) := by omega
    rw [if_neg h1]
    clear h1
    by_cases h2 : hi < p
    · have h2' : (hi : Int) < (p : Int) := by omega
      rw [if_pos h2]
      clear h2
      go_enter Tryz.func76, Tryz.ntmps76
      go_wp2
      go_ret
      exact ⟨rfl, rfl⟩
    · have h2' : ¬ (hi : Int) < (p : Int) := by omega
      rw [if_neg h2]
      clear h2
      go_enter Tryz.func76, Tryz.ntmps76
      go_wp2
      go_ret
      exact ⟨rfl, rfl⟩
theorem extract2 (s : ByteArray) (p : Nat) (h : p + 2 ≤ s.size) : (s.extract p (p + 2)).toList = [s[p]'(by omega), s[p + 1]'(by omega)] := by
  rw [ByteArray.toList_eq, ByteArray.data_extract, Array.toList_extract]
  have hs : s.data.toList.length = s.size := Array.length_toList
  have e : s.data.toList.drop p = s[p]'(by omega) :: s[p + 1]'(by omega) :: s.data.toList.drop (p + 2) := by
    rw [List.drop_eq_getElem_cons (by omega), List.drop_eq_getElem_cons (by omega)]
    rfl
  rw [List.extract_eq_take_drop]
  rw [e, show p + 2 - p = 2 by omega]
  rfl
theorem extract2_eq (s : ByteArray) (p : Nat) (x y : UInt8) (h : p + 2 ≤ s.size) : ((s.extract p (p + 2)).toList == [x, y]) = decide (bt s p = x.toNat ∧ bt s (p + 1) = y.toNat) := by
  rw [extract2 s p h, bt_in (by omega), bt_in (by omega), Bool.eq_iff_iff, beq_iff_eq, decide_eq_true_iff]
  simp only [List.cons.injEq, and_true, Int.natCast_inj, UInt8.toNat_inj]
set_option maxRecDepth 100000 in
theorem begins_any (s : ByteArray) (p : Nat) (x y : UInt8) (w : World) (hz : s.size ≤ 1000) (hp : p ≤ s.size) (hy : y.toNat ≠ 10) :
    Calls Tryz.prog 193 #[.string s, .int .i64 p, .string ⟨#[x, y]⟩] w fun e w' => e = .returned (.bool (decide (bt s p = x.toNat ∧ bt s (p + 1) = y.toNat))) ∧ w' = w := by
  have hl : (⟨#[x, y]⟩ : ByteArray).size = 2 := rfl
  by_cases h : p + 2 ≤ s.size
  · have h' : (p : Int) + 2 ≤ (s.size : Int) := by omega
    go_enter Tryz.func193, Tryz.ntmps193
    go_wp2
    go_ret
    exact ⟨retB (extract2_eq s p x y h), rfl⟩
  · have h' : ¬ (p : Int) + 2 ≤ (s.size : Int) := by omega
    have e1 : decide (bt s p = x.toNat ∧ bt s (p + 1) = y.toNat) = false := by
      rw [decide_eq_false_iff_not]
      rintro ⟨_, h2⟩
      rw [bt_out (by omega)] at h2
      omega
    rw [e1]
    clear e1
    go_enter Tryz.func193, Tryz.ntmps193
    go_wp2
    go_ret
    exact ⟨rfl, rfl⟩
end Go.Proofs.YtkbinfhclaafhaaGreatDoor
