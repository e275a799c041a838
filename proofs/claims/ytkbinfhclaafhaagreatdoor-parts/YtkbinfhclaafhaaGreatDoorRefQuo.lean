import Derived.Test.YtkbinfhclaafhaaGreatDoorRefBlk
namespace Go.Proofs.YtkbinfhclaafhaaGreatDoor
open Go.RowKit

/-! The document's word: a string. -/
set_option maxRecDepth 100000 in
set_option maxHeartbeats 4000000 in
theorem word_quote (s : ByteArray) (p : Nat) (w : World) (hz : s.size ≤ 1000) (hp : p < s.size) (h34 : bt s p = 34) :
    Calls Tryz.prog 130 #[.string s, .int .i64 p] w fun e w' => e = .returned (tkV ⟨1, p, (qR s (p + 1)).1 + qT s (p + 1), p + 1, (qR s (p + 1)).1⟩) ∧ Below w.heap.size w w' := by
  have HB1 := begins_lc s p (w.alloc (.cells #[.int .i64 0, .int .i64 0, .int .i64 0, .int .i64 0, .int .i64 0] 125)) hz (by omega)
  have HB2 := begins_bb s p (w.alloc (.cells #[.int .i64 0, .int .i64 0, .int .i64 0, .int .i64 0, .int .i64 0] 125)) hz (by omega)
  obtain ⟨c, hc⟩ : ∃ c, s[p]'hp = c := ⟨_, rfl⟩
  have r34 : ((c.toNat : Int) == 34) = true := by have := h34; rw [bt_in hp, hc] at this; rw [this]; rfl
  have hp' : (p : Int) < (s.size : Int) := by omega
  rw [decide_eq_false (by rw [h34]; rintro ⟨h, _⟩; exact absurd h (by decide))] at HB1
  rw [decide_eq_false (by rw [h34]; rintro ⟨h, _⟩; exact absurd h (by decide))] at HB2
  clear h34
  obtain ⟨Q, hQ⟩ : ∃ Q, qR s (p + 1) = Q := ⟨_, rfl⟩
  have hT : qT s (p + 1) = if Q.2 then 1 else 0 := by unfold qT; rw [hQ]
  rw [hQ, hT]
  obtain ⟨Tt, hTt⟩ : ∃ Tt, Q.1 + (if Q.2 = true then 1 else 0) = Tt := ⟨_, rfl⟩
  obtain ⟨Ee, hEe⟩ : ∃ Ee, Q.1 = Ee := ⟨_, rfl⟩
  rw [hTt, hEe]
  have HT : Hid (Q.1 + (if Q.2 = true then 1 else 0) = Tt ∧ Q.1 = Ee) := ⟨hTt, hEe⟩
  have HE : Hid (qR s (p + 1) = Q) := hQ
  clear hQ hT hTt hEe
  unfold tkV
  go_enter Tryz.func130, Tryz.ntmps130
  go_wp2_with fail
  refine HB1.mono ?_
  rintro ev wx ⟨rfl, rfl⟩
  clear HB1
  go_wp2_with fail
  refine HB2.mono ?_
  rintro ev wx ⟨rfl, rfl⟩
  clear HB2
  go_wp2
  go_loopg [7] (s.size - (p + 1)) (fun gh qv W => ∃ q : Nat, qv = .int .i64 q ∧ gh = s.size - q ∧ p ≤ q ∧ q ≤ s.size ∧ qR s q = Q ∧ W = w.alloc (.cells #[.int .i64 0, .int .i64 0, .int .i64 0, .int .i64 0, .int .i64 0] 125))
  case atStart => exact ⟨p + 1, by go_num, rfl, by omega, by omega, HE.out, rfl⟩
  case round =>
    obtain ⟨q, rfl, rfl, h1, h2, h3, rfl⟩ := hrel
    have H3 : Hid (qR s q = Q ∧ p ≤ q ∧ q ≤ s.size) := ⟨h3, h1, h2⟩
    clear h1 h3
    by_cases hq : q < s.size
    · have hq' : (q : Int) < (s.size : Int) := by omega
      obtain ⟨d, hd⟩ : ∃ d, s[q]'hq = d := ⟨_, rfl⟩
      have hb : bt s q = (d.toNat : Int) := by rw [bt_in hq, hd]
      have HD : Hid (bt s q = (d.toNat : Int)) := hb
      clear hb
      by_cases k34 : (d.toNat : Int) = 34
      · have HX : Hid (Tt = q + 1 ∧ Ee = q) := by
          have e : Q = (q, true) := by rw [← H3.out.1, qR, if_pos ⟨hq, by rw [HD.out, k34]; decide⟩, if_pos (by rw [HD.out]; exact k34)]
          have h := HT.out
          rw [e] at h
          exact ⟨h.1.symm, h.2.symm⟩
        go_wp2
        exact bodyPost_ret (v := .agg #[.int .i64 1, .int .i64 p, .int .i64 ((q : Int) + 1), .int .i64 ((p : Int) + 1), .int .i64 q]) (by simp [results, Tryz.results130, Tryz.isAgg125, Tryz.sizeOf125, go_sem]) rfl ⟨by rw [HX.out.1, HX.out.2] <;> rfl, (Below.refl _ _).alloc (Nat.le_refl _) _⟩
      · have t34 : ((d.toNat : Int) == 34) = false := by simpa using k34
        by_cases k10 : (d.toNat : Int) = 10
        · have HX : Hid (Tt = q ∧ Ee = q) := by
            have e : Q = (q, false) := by rw [← H3.out.1, qR, if_neg (by rintro ⟨_, h⟩; exact h (by rw [HD.out]; exact k10))]
            have h := HT.out
            rw [e] at h
            exact ⟨h.1.symm, h.2.symm⟩
          clear k34
          go_wp2
          exact bodyPost_ret (v := .agg #[.int .i64 1, .int .i64 p, .int .i64 q, .int .i64 ((p : Int) + 1), .int .i64 q]) (by simp [results, Tryz.results130, Tryz.isAgg125, Tryz.sizeOf125, go_sem]) rfl ⟨by rw [HX.out.1, HX.out.2] <;> rfl, (Below.refl _ _).alloc (Nat.le_refl _) _⟩
        · have t10 : ((d.toNat : Int) == 10) = false := by simpa using k10
          by_cases k92 : (d.toNat : Int) = 92
          · by_cases hq1 : q + 1 < s.size
            · have hq1' : (q : Int) + 1 < (s.size : Int) := by omega
              obtain ⟨e, he⟩ : ∃ e, s[q + 1]'hq1 = e := ⟨_, rfl⟩
              have HE2 : Hid (bt s (q + 1) = (e.toNat : Int)) := by show _ = _; rw [bt_in hq1, he]
              by_cases m10 : (e.toNat : Int) = 10
              · have HX : Hid (qR s (q + 1) = Q) := by
                  show _ = _
                  rw [← H3.out.1]
                  conv => rhs; rw [qR, if_pos ⟨hq, by rw [HD.out]; exact k10⟩, if_neg (by rw [HD.out]; exact k34), if_neg (by rintro ⟨_, h⟩; exact h (by rw [HE2.out]; exact m10))]
                clear k34 k10
                go_wp2
                go_roundg (s.size - (q + 1))
                case measure => omega
                case rel => exact ⟨q + 1, by go_num, rfl, by have := H3.out.2.1; omega, by omega, HX.out, rfl⟩
              · have u10 : ((e.toNat : Int) == 10) = false := by simpa using m10
                have HX : Hid (qR s (q + 2) = Q) := by
                  show _ = _
                  rw [← H3.out.1]
                  conv => rhs; rw [qR, if_pos ⟨hq, by rw [HD.out]; exact k10⟩, if_neg (by rw [HD.out]; exact k34), if_pos ⟨by rw [HD.out]; exact k92, by rw [HE2.out]; exact m10⟩]
                clear k34 k10 m10
                go_wp2
                go_roundg (s.size - (q + 2))
                case measure => omega
                case rel => exact ⟨q + 2, by go_num, rfl, by have := H3.out.2.1; omega, by omega, HX.out, rfl⟩
            · have hq1' : ¬ (q : Int) + 1 < (s.size : Int) := by omega
              have HX : Hid (qR s (q + 1) = Q) := by
                show _ = _
                rw [← H3.out.1]
                conv => rhs; rw [qR, if_pos ⟨hq, by rw [HD.out]; exact k10⟩, if_neg (by rw [HD.out]; exact k34), if_neg (by rintro ⟨_, h⟩; exact h (bt_out hq1))]
              clear k34 k10
              go_wp2
              go_roundg (s.size - (q + 1))
              case measure => omega
              case rel => exact ⟨q + 1, by go_num, rfl, by have := H3.out.2.1; omega, by omega, HX.out, rfl⟩
          · have t92 : ((d.toNat : Int) == 92) = false := by simpa using k92
            have HX : Hid (qR s (q + 1) = Q) := by
              show _ = _
              rw [← H3.out.1]
              conv => rhs; rw [qR, if_pos ⟨hq, by rw [HD.out]; exact k10⟩, if_neg (by rw [HD.out]; exact k34), if_neg (by rintro ⟨h, _⟩; exact k92 (by rw [← HD.out]; exact h))]
            have n34 : ((d.toNat : Int) != 34) = true := by simpa using k34
            have n10 : ((d.toNat : Int) != 10) = true := by simpa using k10
            go_wp2
            go_roundg (s.size - (q + 1))
            case measure => omega
            case rel => exact ⟨q + 1, by go_num, rfl, by have := H3.out.2.1; omega, by omega, HX.out, rfl⟩
    · have hq' : ¬ (q : Int) < (s.size : Int) := by omega
      have HX : Hid (Tt = q ∧ Ee = q) := by
        have e : Q = (q, false) := by rw [← H3.out.1, qR, if_neg (by rintro ⟨h, _⟩; exact hq h)]
        have h := HT.out
        rw [e] at h
        exact ⟨h.1.symm, h.2.symm⟩
      clear hq
      go_wp2
      exact bodyPost_ret (v := .agg #[.int .i64 1, .int .i64 p, .int .i64 q, .int .i64 ((p : Int) + 1), .int .i64 q]) (by simp [results, Tryz.results130, Tryz.isAgg125, Tryz.sizeOf125, go_sem]) rfl ⟨by rw [HX.out.1, HX.out.2] <;> rfl, (Below.refl _ _).alloc (Nat.le_refl _) _⟩
theorem word_any (s : ByteArray) (p : Nat) (w : World) (hz : s.size ≤ 1000) (hp : p < s.size) : Calls Tryz.prog 130 #[.string s, .int .i64 p] w fun e w' => e = .returned (tkV (wordT s p)) ∧ Below w.heap.size w w' := by
  unfold wordT
  by_cases h34 : bt s p = 34
  · rw [if_pos h34]; exact word_quote s p w hz hp h34
  · rw [if_neg h34]
    by_cases hlc : bt s p = 47 ∧ bt s (p + 1) = 47
    · rw [if_pos hlc]; exact word_line s p w hz hp hlc
    · rw [if_neg hlc]
      by_cases hbb : bt s p = 47 ∧ bt s (p + 1) = 42
      · rw [if_pos hbb]; exact word_block s p w hz hp hbb
      · rw [if_neg hbb]; exact word_code s p w hz hp h34 hlc hbb
end Go.Proofs.YtkbinfhclaafhaaGreatDoor
