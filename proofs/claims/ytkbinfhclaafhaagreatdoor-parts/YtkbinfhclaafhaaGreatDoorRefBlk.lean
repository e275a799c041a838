import Derived.Test.YtkbinfhclaafhaaGreatDoorRefWord
namespace Go.Proofs.YtkbinfhclaafhaaGreatDoor
open Go.RowKit

/-! The document's word: a block. -/
set_option maxRecDepth 100000 in
set_option maxHeartbeats 4000000 in
theorem word_block (s : ByteArray) (p : Nat) (w : World) (hz : s.size ≤ 1000) (hp : p < s.size) (hbb : bt s p = 47 ∧ bt s (p + 1) = 42) :
    Calls Tryz.prog 130 #[.string s, .int .i64 p] w fun e w' => e = .returned (tkV ⟨2, p, (bR s (p + 2)).1 + bT s (p + 2), p + 2, (bR s (p + 2)).1⟩) ∧ Below w.heap.size w w' := by
  have HB1 := begins_lc s p (w.alloc (.cells #[.int .i64 0, .int .i64 0, .int .i64 0, .int .i64 0, .int .i64 0] 125)) hz (by omega)
  have HB2 := begins_bb s p (w.alloc (.cells #[.int .i64 0, .int .i64 0, .int .i64 0, .int .i64 0, .int .i64 0] 125)) hz (by omega)
  rw [decide_eq_true hbb] at HB2
  rw [decide_eq_false (by rw [hbb.2]; rintro ⟨_, h⟩; exact absurd h (by decide))] at HB1
  obtain ⟨c, hc⟩ : ∃ c, s[p]'hp = c := ⟨_, rfl⟩
  have r34 : ((c.toNat : Int) == 34) = false := by have := hbb.1; rw [bt_in hp, hc] at this; rw [this]; rfl
  have hp' : (p : Int) < (s.size : Int) := by omega
  have h2 := bt_lt (s := s) (i := p + 1) (by rw [hbb.2]; decide)
  clear hbb
  obtain ⟨E, hE⟩ : ∃ E, bR s (p + 2) = E := ⟨_, rfl⟩
  have hT : bT s (p + 2) = if E.2 then 2 else 0 := by unfold bT; rw [hE]
  rw [hE, hT]
  obtain ⟨Tt, hTt⟩ : ∃ Tt, E.1 + (if E.2 = true then 2 else 0) = Tt := ⟨_, rfl⟩
  obtain ⟨Ee, hEe⟩ : ∃ Ee, E.1 = Ee := ⟨_, rfl⟩
  rw [hTt, hEe]
  have HT : Hid (E.1 + (if E.2 = true then 2 else 0) = Tt ∧ E.1 = Ee) := ⟨hTt, hEe⟩
  have HE : Hid (bR s (p + 2) = E) := hE
  clear hE hT hTt hEe
  unfold tkV
  go_enter Tryz.func130, Tryz.ntmps130
  go_wp2_with fail
  refine HB1.mono ?_
  rintro ev wx ⟨rfl, rfl⟩
  clear HB1
  go_wp2_with fail
  refine HB2.mono ?_
  rintro ev wx ⟨rfl, rfl⟩
  clear HB2
  go_wp2
  go_loopg [7] (s.size - (p + 2)) (fun gh qv W => ∃ q : Nat, qv = .int .i64 q ∧ gh = s.size - q ∧ p ≤ q ∧ q ≤ s.size ∧ bR s q = E ∧ W = w.alloc (.cells #[.int .i64 0, .int .i64 0, .int .i64 0, .int .i64 0, .int .i64 0] 125))
  case atStart => exact ⟨p + 2, by go_num, rfl, by omega, by omega, HE.out, rfl⟩
  case round =>
    obtain ⟨q, rfl, rfl, h1, h2, h3, rfl⟩ := hrel
    have H3 : Hid (bR s q = E ∧ p ≤ q ∧ q ≤ s.size) := ⟨h3, h1, h2⟩
    clear h1 h3
    by_cases hq : q < s.size
    · have hq' : (q : Int) < (s.size : Int) := by omega
      have HB := begins_be s q (w.alloc (.cells #[.int .i64 0, .int .i64 0, .int .i64 0, .int .i64 0, .int .i64 0] 125)) hz (by omega)
      by_cases hh : bt s q = 42 ∧ bt s (q + 1) = 47
      · rw [decide_eq_true hh] at HB
        have HX : Hid (Tt = q + 2 ∧ Ee = q) := by
          have e : E = (q, true) := by rw [← H3.out.1, bR_hit hq hh]
          have h := HT.out
          rw [e] at h
          exact ⟨h.1.symm, h.2.symm⟩
        clear hh
        go_wp2_with fail
        refine HB.mono ?_
        rintro ev wx ⟨rfl, rfl⟩
        clear HB
        go_wp2
        exact bodyPost_ret (v := .agg #[.int .i64 2, .int .i64 p, .int .i64 ((q : Int) + 2), .int .i64 ((p : Int) + 2), .int .i64 q]) (by simp [results, Tryz.results130, Tryz.isAgg125, Tryz.sizeOf125, go_sem]) rfl ⟨by rw [HX.out.1, HX.out.2] <;> rfl, (Below.refl _ _).alloc (Nat.le_refl _) _⟩
      · rw [decide_eq_false hh] at HB
        have HX : Hid (bR s (q + 1) = E) := by show _ = _; rw [← bR_go hq hh]; exact H3.out.1
        clear hh
        go_wp2_with fail
        refine HB.mono ?_
        rintro ev wx ⟨rfl, rfl⟩
        clear HB
        go_wp2
        go_roundg (s.size - (q + 1))
        case measure => omega
        case rel => exact ⟨q + 1, by go_num, rfl, by have := H3.out.2.1; omega, by omega, HX.out, rfl⟩
    · have hq' : ¬ (q : Int) < (s.size : Int) := by omega
      have HX : Hid (Tt = q ∧ Ee = q) := by
        have e : E = (q, false) := by rw [← H3.out.1, bR_end hq]
        have h := HT.out
        rw [e] at h
        exact ⟨h.1.symm, h.2.symm⟩
      clear hq
      go_wp2
      exact bodyPost_ret (v := .agg #[.int .i64 2, .int .i64 p, .int .i64 q, .int .i64 ((p : Int) + 2), .int .i64 q]) (by simp [results, Tryz.results130, Tryz.isAgg125, Tryz.sizeOf125, go_sem]) rfl ⟨by rw [HX.out.1, HX.out.2] <;> rfl, (Below.refl _ _).alloc (Nat.le_refl _) _⟩
end Go.Proofs.YtkbinfhclaafhaaGreatDoor
