import Derived.Test.YtkbinfhclaafhaaGreatDoorRefTok
import Derived.Deep.LoopGhost
namespace Go.Proofs.YtkbinfhclaafhaaGreatDoor
open Go.RowKit

/-! The document's word. -/
theorem begins_lc (s : ByteArray) (p : Nat) (w : World) (hz : s.size ≤ 1000) (hp : p ≤ s.size) : Calls Tryz.prog 193 #[.string s, .int .i64 p, .string ⟨#[47, 47]⟩] w fun e w' => e = .returned (.bool (decide (bt s p = 47 ∧ bt s (p + 1) = 47))) ∧ w' = w := begins_any s p 47 47 w hz hp (by decide)
theorem begins_bb (s : ByteArray) (p : Nat) (w : World) (hz : s.size ≤ 1000) (hp : p ≤ s.size) : Calls Tryz.prog 193 #[.string s, .int .i64 p, .string ⟨#[47, 42]⟩] w fun e w' => e = .returned (.bool (decide (bt s p = 47 ∧ bt s (p + 1) = 42))) ∧ w' = w := begins_any s p 47 42 w hz hp (by decide)
theorem begins_be (s : ByteArray) (p : Nat) (w : World) (hz : s.size ≤ 1000) (hp : p ≤ s.size) : Calls Tryz.prog 193 #[.string s, .int .i64 p, .string ⟨#[42, 47]⟩] w fun e w' => e = .returned (.bool (decide (bt s p = 42 ∧ bt s (p + 1) = 47))) ∧ w' = w := begins_any s p 42 47 w hz hp (by decide)
def tkV (t : Tk) : Value := .agg #[.int .i64 t.k, .int .i64 t.F, .int .i64 t.T, .int .i64 t.B, .int .i64 t.E]
set_option maxRecDepth 100000 in
set_option maxHeartbeats 4000000 in
theorem word_code (s : ByteArray) (p : Nat) (w : World) (hz : s.size ≤ 1000) (hp : p < s.size) (h34 : ¬ bt s p = 34) (hlc : ¬ (bt s p = 47 ∧ bt s (p + 1) = 47)) (hbb : ¬ (bt s p = 47 ∧ bt s (p + 1) = 42)) :
    Calls Tryz.prog 130 #[.string s, .int .i64 p] w fun e w' => e = .returned (tkV ⟨0, p, p + 1, 0, 0⟩) ∧ Below w.heap.size w w' := by
  have HB1 := begins_lc s p (w.alloc (.cells #[.int .i64 0, .int .i64 0, .int .i64 0, .int .i64 0, .int .i64 0] 125)) hz (by omega)
  have HB2 := begins_bb s p (w.alloc (.cells #[.int .i64 0, .int .i64 0, .int .i64 0, .int .i64 0, .int .i64 0] 125)) hz (by omega)
  rw [decide_eq_false hlc] at HB1
  rw [decide_eq_false hbb] at HB2
  obtain ⟨c, hc⟩ : ∃ c, s[p]'hp = c := ⟨_, rfl⟩
  have r34 : ((c.toNat : Int) == 34) = false := by rw [bt_in hp, hc] at h34; simpa using h34
  have hp' : (p : Int) < (s.size : Int) := by omega
  clear h34 hlc hbb
  unfold tkV
  go_enter Tryz.func130, Tryz.ntmps130
  go_wp2_with fail
  refine HB1.mono ?_
  rintro ev wx ⟨rfl, rfl⟩
  clear HB1
  go_wp2_with fail
  refine HB2.mono ?_
  rintro ev wx ⟨rfl, rfl⟩
  clear HB2
  go_wp2
  exact bodyPost_ret (v := .agg #[.int .i64 0, .int .i64 p, .int .i64 ((p : Int) + 1), .int .i64 0, .int .i64 0]) (by simp [results, Tryz.results130, Tryz.isAgg125, Tryz.sizeOf125, go_sem]) rfl ⟨rfl, (Below.refl _ _).alloc (Nat.le_refl _) _⟩
set_option maxRecDepth 100000 in
set_option maxHeartbeats 4000000 in
theorem word_line (s : ByteArray) (p : Nat) (w : World) (hz : s.size ≤ 1000) (hp : p < s.size) (hlc : bt s p = 47 ∧ bt s (p + 1) = 47) :
    Calls Tryz.prog 130 #[.string s, .int .i64 p] w fun e w' => e = .returned (tkV ⟨2, p, lineEnd s p, p + 2, lineEnd s p⟩) ∧ Below w.heap.size w w' := by
  have HB1 := begins_lc s p (w.alloc (.cells #[.int .i64 0, .int .i64 0, .int .i64 0, .int .i64 0, .int .i64 0] 125)) hz (by omega)
  have HB2 := begins_bb s p (w.alloc (.cells #[.int .i64 0, .int .i64 0, .int .i64 0, .int .i64 0, .int .i64 0] 125)) hz (by omega)
  rw [decide_eq_true hlc] at HB1
  obtain ⟨c, hc⟩ : ∃ c, s[p]'hp = c := ⟨_, rfl⟩
  have r34 : ((c.toNat : Int) == 34) = false := by have := hlc.1; rw [bt_in hp, hc] at this; rw [this]; rfl
  have hp' : (p : Int) < (s.size : Int) := by omega
  clear hlc
  obtain ⟨E, hE⟩ : ∃ E, lineEnd s p = E := ⟨_, rfl⟩
  rw [hE]
  have HE : Hid (lineEnd s p = E) := hE
  clear hE
  unfold tkV
  go_enter Tryz.func130, Tryz.ntmps130
  go_wp2_with fail
  refine HB1.mono ?_
  rintro ev wx ⟨rfl, rfl⟩
  clear HB1
  go_wp2_with fail
  refine HB2.mono ?_
  rintro ev wx ⟨rfl, rfl⟩
  clear HB2
  go_wp2
  go_loopg [7] (s.size - p) (fun gh qv W => ∃ q : Nat, qv = .int .i64 q ∧ gh = s.size - q ∧ p ≤ q ∧ q ≤ s.size ∧ lineEnd s q = E ∧ W = w.alloc (.cells #[.int .i64 0, .int .i64 0, .int .i64 0, .int .i64 0, .int .i64 0] 125))
  case atStart => exact ⟨p, rfl, rfl, Nat.le_refl _, by omega, HE.out, rfl⟩
  case round =>
    obtain ⟨q, rfl, rfl, h1, h2, h3, rfl⟩ := hrel
    have H3 : Hid (lineEnd s q = E ∧ p ≤ q ∧ q ≤ s.size) := ⟨h3, h1, h2⟩
    clear h1 h3
    by_cases hq : q < s.size
    · have hq' : (q : Int) < (s.size : Int) := by omega
      obtain ⟨d, hd⟩ : ∃ d, s[q]'hq = d := ⟨_, rfl⟩
      by_cases h10 : (d.toNat : Int) = 10
      · have HX : Hid (q = E) := by
          have := H3.out.1
          rw [lineEnd, if_neg (by rintro ⟨_, h⟩; exact h (by rw [bt_in hq, hd]; exact h10))] at this
          exact this
        have r10 : ((d.toNat : Int) == 10) = true := by simpa using h10
        clear h10
        go_wp2
        exact bodyPost_ret (v := .agg #[.int .i64 2, .int .i64 p, .int .i64 q, .int .i64 ((p : Int) + 2), .int .i64 q]) (by simp [results, Tryz.results130, Tryz.isAgg125, Tryz.sizeOf125, go_sem]) rfl ⟨by rw [← HX.out] <;> rfl, (Below.refl _ _).alloc (Nat.le_refl _) _⟩
      · have HX : Hid (lineEnd s (q + 1) = E) := by
          have := H3.out.1
          rw [lineEnd, if_pos ⟨hq, by rw [bt_in hq, hd]; exact h10⟩] at this
          exact this
        have r10 : ((d.toNat : Int) == 10) = false := by simpa using h10
        clear h10
        go_wp2
        go_roundg (s.size - (q + 1))
        case measure => omega
        case rel => exact ⟨q + 1, by go_num, rfl, by have := H3.out.2.1; omega, by omega, HX.out, rfl⟩
    · have hq' : ¬ (q : Int) < (s.size : Int) := by omega
      have HX : Hid (q = E) := by
        have := H3.out.1
        rw [lineEnd, if_neg (by rintro ⟨h, _⟩; exact hq h)] at this
        exact this
      clear hq
      go_wp2
      exact bodyPost_ret (v := .agg #[.int .i64 2, .int .i64 p, .int .i64 q, .int .i64 ((p : Int) + 2), .int .i64 q]) (by simp [results, Tryz.results130, Tryz.isAgg125, Tryz.sizeOf125, go_sem]) rfl ⟨by rw [← HX.out] <;> rfl, (Below.refl _ _).alloc (Nat.le_refl _) _⟩
end Go.Proofs.YtkbinfhclaafhaaGreatDoor
