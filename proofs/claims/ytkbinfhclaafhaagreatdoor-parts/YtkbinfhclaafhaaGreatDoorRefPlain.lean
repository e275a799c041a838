import Derived.Test.YtkbinfhclaafhaaGreatDoorRefFound
namespace Go.Proofs.YtkbinfhclaafhaaGreatDoor
open Go.RowKit

set_option maxHeartbeats 1000000 in
theorem strong_any (c : Int) (w : World) : Calls Tryz.prog 192 #[.int .i64 c] w fun e w' => e = .returned (.int .i64 (strongS c)) ∧ w' = w := by
  obtain ⟨q, hq⟩ : ∃ q, q = strongS c := ⟨_, rfl⟩
  rw [← hq]
  have HQ : Hid (q = strongS c) := hq
  clear hq
  by_cases h0 : c = 0
  · have HV : Hid (c = 0) := h0
    have h0' : (c == 0) = true := by simpa using h0
    clear h0
    go_enter Tryz.func192, Tryz.ntmps192
    go_wp2
    go_ret
    exact ⟨ret_int (by rw [HQ.out, strongS, if_pos HV.out]), rfl⟩
  have h0' : (c == 0) = false := by simpa using h0
  by_cases h1 : c = 1
  · have HV : Hid (c = 1) := h1
    have HW : Hid (¬ c = 0) := h0
    have h1' : (c == 1) = true := by simpa using h1
    clear h0  h1
    go_enter Tryz.func192, Tryz.ntmps192
    go_wp2
    go_ret
    exact ⟨ret_int (by rw [HQ.out, strongS, if_neg HW.out, if_pos (by have := HV.out; omega)]), rfl⟩
  have h1' : (c == 1) = false := by simpa using h1
  by_cases h3 : c = 3
  · have HV : Hid (c = 3) := h3
    have HW : Hid (¬ c = 0) := h0
    have h3' : (c == 3) = true := by simpa using h3
    clear h0 h1 h3
    go_enter Tryz.func192, Tryz.ntmps192
    go_wp2
    go_ret
    exact ⟨ret_int (by rw [HQ.out, strongS, if_neg HW.out, if_pos (by have := HV.out; omega)]), rfl⟩
  have h3' : (c == 3) = false := by simpa using h3
  by_cases h6 : c = 6
  · have HV : Hid (c = 6) := h6
    have HW : Hid (¬ c = 0) := h0
    have h6' : (c == 6) = true := by simpa using h6
    clear h0 h1 h3 h6
    go_enter Tryz.func192, Tryz.ntmps192
    go_wp2
    go_ret
    exact ⟨ret_int (by rw [HQ.out, strongS, if_neg HW.out, if_pos (by have := HV.out; omega)]), rfl⟩
  have h6' : (c == 6) = false := by simpa using h6
  have HW : Hid (¬ c = 0) := h0
  have HX : Hid (¬ (c = 1 ∨ c = 3 ∨ c = 6)) := by show ¬ _; omega
  clear h0 h1 h3 h6
  go_enter Tryz.func192, Tryz.ntmps192
  go_wp2
  go_ret
  exact ⟨ret_int (by rw [HQ.out, strongS, if_neg HW.out, if_neg HX.out]), rfl⟩

set_option maxHeartbeats 1000000 in
theorem side_any (a b : Int) (w : World) (ha : 0 ≤ a) (ha' : a ≤ 1000) (hb : 0 ≤ b) (hb' : b ≤ 1000) : Calls Tryz.prog 189 #[.int .i64 a, .int .i64 b] w fun e w' => e = .returned (.int .i64 (sideS a b)) ∧ w' = w := by
  obtain ⟨q, hq⟩ : ∃ q, q = sideS a b := ⟨_, rfl⟩
  rw [← hq]
  have HQ : Hid (q = sideS a b) := hq
  clear hq
  by_cases h : a < b
  · by_cases h1 : b % 2 = 1
    · have h1' : (b % 2 == 1) = true := by simpa using h1
      have HV : Hid (b % 2 = 1) := h1
      clear h1
      go_enter Tryz.func189, Tryz.ntmps189
      go_wp2
      go_ret
      exact ⟨ret_int (by rw [HQ.out, sideS, if_pos h, if_pos HV.out]), rfl⟩
    · have h1' : (b % 2 == 1) = false := by simpa using h1
      have HV : Hid (¬ b % 2 = 1) := h1
      clear h1
      go_enter Tryz.func189, Tryz.ntmps189
      go_wp2
      go_ret
      exact ⟨ret_int (by rw [HQ.out, sideS, if_pos h, if_neg HV.out]), rfl⟩
  · by_cases h1 : a % 2 = 1
    · have h1' : (a % 2 == 1) = true := by simpa using h1
      have HV : Hid (a % 2 = 1) := h1
      clear h1
      go_enter Tryz.func189, Tryz.ntmps189
      go_wp2
      go_ret
      exact ⟨ret_int (by rw [HQ.out, sideS, if_neg (by omega : ¬ a < b), if_pos HV.out]), rfl⟩
    · have h1' : (a % 2 == 1) = false := by simpa using h1
      have HV : Hid (¬ a % 2 = 1) := h1
      clear h1
      go_enter Tryz.func189, Tryz.ntmps189
      go_wp2
      go_ret
      exact ⟨ret_int (by rw [HQ.out, sideS, if_neg (by omega : ¬ a < b), if_neg HV.out]), rfl⟩

set_option maxHeartbeats 1000000 in
theorem implicit_any (c l : Int) (w : World) (hl : 0 ≤ l) (hl' : l ≤ 1000) : Calls Tryz.prog 128 #[.int .i64 c, .int .i64 l] w fun e w' => e = .returned (.int .i64 (implS c l)) ∧ w' = w := by
  obtain ⟨q, hq⟩ : ∃ q, q = implS c l := ⟨_, rfl⟩
  rw [← hq]
  have HQ : Hid (q = implS c l) := hq
  clear hq
  by_cases h : l % 2 = 0
  · have h' : (l % 2 == 0) = true := by simpa using h
    have HV : Hid (l % 2 = 0) := h
    clear h
    by_cases h1 : c = 1
    · have h1' : (c == 1) = true := by simpa using h1
      have HW : Hid (c = 1) := h1
      clear h1
      go_enter Tryz.func128, Tryz.ntmps128
      go_wp2
      go_ret
      exact ⟨ret_int (by rw [HQ.out, implS, if_pos HV.out, if_pos HW.out]), rfl⟩
    have h1' : (c == 1) = false := by simpa using h1
    by_cases h6 : c = 6
    · have h6' : (c == 6) = true := by simpa using h6
      have HW : Hid (c = 6) := h6
      have HX : Hid (¬ c = 1) := h1
      clear h1 h6
      go_enter Tryz.func128, Tryz.ntmps128
      go_wp2
      go_ret
      exact ⟨ret_int (by rw [HQ.out, implS, if_pos HV.out, if_neg HX.out, if_pos (by have := HW.out; omega)]), rfl⟩
    have h6' : (c == 6) = false := by simpa using h6
    by_cases h3 : c = 3
    · have h3' : (c == 3) = true := by simpa using h3
      have HW : Hid (c = 3) := h3
      have HX : Hid (¬ c = 1) := h1
      clear h1 h6 h3
      go_enter Tryz.func128, Tryz.ntmps128
      go_wp2
      go_ret
      exact ⟨ret_int (by rw [HQ.out, implS, if_pos HV.out, if_neg HX.out, if_pos (by have := HW.out; omega)]), rfl⟩
    have h3' : (c == 3) = false := by simpa using h3
    have HX : Hid (¬ c = 1) := h1
    have HY : Hid (¬ (c = 6 ∨ c = 3)) := by show ¬ _; omega
    clear h1 h6 h3
    go_enter Tryz.func128, Tryz.ntmps128
    go_wp2
    go_ret
    exact ⟨ret_int (by rw [HQ.out, implS, if_pos HV.out, if_neg HX.out, if_neg HY.out]), rfl⟩
  · have h' : (l % 2 == 0) = false := by simpa using h
    have HV : Hid (¬ l % 2 = 0) := h
    clear h
    by_cases h1 : c = 1
    · have h1' : (c == 1) = true := by simpa using h1
      have HW : Hid (c = 1) := h1
      clear h1
      go_enter Tryz.func128, Tryz.ntmps128
      go_wp2
      go_ret
      exact ⟨ret_int (by rw [HQ.out, implS, if_neg HV.out, if_pos HW.out]), rfl⟩
    · have h1' : (c == 1) = false := by simpa using h1
      have HW : Hid (¬ c = 1) := h1
      clear h1
      go_enter Tryz.func128, Tryz.ntmps128
      go_wp2
      go_ret
      exact ⟨ret_int (by rw [HQ.out, implS, if_neg HV.out, if_neg HW.out]), rfl⟩

set_option maxHeartbeats 1000000 in
theorem loose_any (c : Int) (w : World) : Calls Tryz.prog 129 #[.int .i64 c] w fun e w' => e = .returned (.bool (looseB c)) ∧ w' = w := by
  obtain ⟨q, hq⟩ : ∃ q, q = looseB c := ⟨_, rfl⟩
  rw [← hq]
  have HQ : Hid (q = looseB c) := hq
  clear hq
  by_cases h1 : (c == 11) = true
  · go_enter Tryz.func129, Tryz.ntmps129
    go_wp2
    go_ret
    exact ⟨ret_bool (by rw [HQ.out, looseB, h1]; rfl), rfl⟩
  have h1 : (c == 11) = false := by simpa using h1
  by_cases h2 : (c == 9) = true
  · go_enter Tryz.func129, Tryz.ntmps129
    go_wp2
    go_ret
    exact ⟨ret_bool (by rw [HQ.out, looseB, h1, h2]; rfl), rfl⟩
  have h2 : (c == 9) = false := by simpa using h2
  go_enter Tryz.func129, Tryz.ntmps129
  go_wp2
  go_ret
  exact ⟨ret_bool (by rw [HQ.out, looseB, h1, h2]; rfl), rfl⟩

/-- The place of the isolate that the PDI at place i matches; -1: none. -/
def openerF (cs : List Int) (i : Nat) : Nat → Int
  | 0 => -1
  | n + 1 => if isoB (cs.getD (i - (n + 1)) 0) = true ∧ mt cs (i - (n + 1)) = i then ((i - (n + 1) : Nat) : Int) else openerF cs i n
def opener (cs : List Int) (i : Nat) : Int := openerF cs i i

set_option maxHeartbeats 2000000 in
theorem opener_row (cs : List Int) (i b off cap len : Nat) (w : World) (hl : cs.length = len) (hn : len ≤ 1000000) (hi : i ≤ len) (hc : IntsAt w b off cs) :
    Calls Tryz.prog 122 #[.slice (some ⟨b, off, none⟩) len cap, .int .i64 i] w fun e w' => e = .returned (.int .i64 (opener cs i)) ∧ w' = w := by
  have HC : Hid (IntsAt w b off cs) := hc
  have HL : Hid (cs.length = len) := hl
  clear hc hl
  obtain ⟨q, hq⟩ : ∃ q, q = opener cs i := ⟨_, rfl⟩
  rw [← hq]
  have HQ : Hid (q = openerF cs i (i - 0)) := hq
  clear hq
  go_enter Tryz.func122, Tryz.ntmps122
  go_wp2
  go_loop [5] (fun k => ∃ m : Nat, m ≤ i ∧ k = .int .i64 m ∧ q = openerF cs i (i - m)) (fun k => i - (intOf k).toNat)
  case atStart => exact ⟨0, by omega, rfl, HQ.out⟩
  case round =>
    obtain ⟨m, hm, rfl, hT⟩ := hrel
    have HT : Hid (q = openerF cs i (i - m)) := hT
    clear hT HQ
    by_cases hlt : m < i
    · have hcell := HC.out m (by rw [HL.out]; omega)
      obtain ⟨c, hx⟩ : ∃ c, c = cs.getD m 0 := ⟨_, rfl⟩
      rw [← hx] at hcell
      have HS : Hid (q = if isoB c = true ∧ mt cs m = i then (m : Int) else openerF cs i (i - (m + 1))) := by
        have := HT.out
        rw [show i - m = (i - (m + 1)) + 1 by omega, openerF, show i - (i - (m + 1) + 1) = m by omega, ← hx] at this
        exact this
      clear hx HT
      have hml : (m : Int) < (len : Int) := by omega
      go_wp2_with fail
      refine (isolate_any c w).mono ?_
      rintro e w' ⟨rfl, rfl⟩
      cases hq : isoB c
      · have HN : Hid (q = openerF cs i (i - (m + 1))) := by have := HS.out; rw [hq, if_neg (by simp)] at this; exact this
        clear hq HS
        go_wp2
        go_round
        case rel => exact ⟨m + 1, by omega, by go_num, HN.out⟩
        case measure => simp [intOf]; omega
      · have HM : Hid (Calls Tryz.prog 115 #[.slice (some ⟨b, off, none⟩) len cap, .int .i64 m] w' fun e w2 => e = .returned (.int .i64 (mt cs m)) ∧ w2 = w') :=
          matching_row cs m b off cap len w' HL.out hn (by omega) HC.out
        have hmm := mt_le cs m (by rw [HL.out]; omega)
        have HS' : Hid (q = if mt cs m = i then (m : Int) else openerF cs i (i - (m + 1))) := by
          have := HS.out; rw [hq] at this; show q = _; simpa using this
        generalize mt cs m = z at *
        clear hq HS
        by_cases hz : z = i
        · have HV : Hid (q = (m : Int)) := by have := HS'.out; rw [if_pos hz] at this; exact this
          have hz' : ((z : Int) == (i : Int)) = true := by simp [hz]
          clear hz HS'
          go_wp2_with fail
          refine HM.out.mono ?_
          rintro e w2 ⟨rfl, rfl⟩
          go_wp2
          go_ret
          exact ⟨ret_int (by rw [HV.out]), rfl⟩
        · have HV : Hid (q = openerF cs i (i - (m + 1))) := by have := HS'.out; rw [if_neg hz] at this; exact this
          have hz' : ((z : Int) == (i : Int)) = false := by simp; omega
          clear hz HS'
          go_wp2_with fail
          refine HM.out.mono ?_
          rintro e w2 ⟨rfl, rfl⟩
          go_wp2
          go_round
          case rel => exact ⟨m + 1, by omega, by go_num, HV.out⟩
          case measure => simp [intOf]; omega
    · have HV : Hid (q = -1) := by have := HT.out; rw [show i - m = 0 by omega] at this; exact this
      go_wp2
      go_ret
      exact ⟨ret_int (by rw [HV.out]), rfl⟩
end Go.Proofs.YtkbinfhclaafhaaGreatDoor
