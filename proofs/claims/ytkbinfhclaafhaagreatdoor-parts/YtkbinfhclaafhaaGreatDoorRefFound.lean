import Derived.Test.YtkbinfhclaafhaaGreatDoorRefSmall
namespace Go.Proofs.YtkbinfhclaafhaaGreatDoor
open Go.RowKit

def FoundTo (cs : List Int) (k : Nat) : Prop := ∃ f, cs.length ≤ k + f ∧ found cs = foundF cs f k
theorem FoundTo.start (cs : List Int) : FoundTo cs 0 := ⟨cs.length, by omega, rfl⟩
theorem FoundTo.open {cs : List Int} {k : Nat} (h : FoundTo cs k) (hk : k < cs.length) : found cs = (if cs.getD k 0 = 0 then 0 else if cs.getD k 0 = 1 ∨ cs.getD k 0 = 2 then 1 else if isoB (cs.getD k 0) = true then foundF cs cs.length (mt cs k + 1) else foundF cs cs.length (k + 1)) := by
  obtain ⟨f, hf, e⟩ := h
  cases f with
  | zero => omega
  | succ f =>
    rw [e, foundF, if_pos hk]
    have hm := mt_le cs k (by omega)
    rw [foundF_any cs f cs.length (mt cs k + 1) (by omega) (by omega), foundF_any cs f cs.length (k + 1) (by omega) (by omega)]
theorem FoundTo.stop {cs : List Int} {k : Nat} (h : FoundTo cs k) (hk : ¬ k < cs.length) : found cs = 0 := by
  obtain ⟨f, hf, e⟩ := h
  rw [e]
  cases f with
  | zero => rfl
  | succ f => rw [foundF, if_neg hk]
theorem FoundTo.zero {cs : List Int} {k : Nat} (h : FoundTo cs k) (hk : k < cs.length) (hc : cs.getD k 0 = 0) : found cs = 0 := by rw [h.open hk, if_pos hc]
theorem FoundTo.one {cs : List Int} {k : Nat} (h : FoundTo cs k) (hk : k < cs.length) (hc : cs.getD k 0 = 1 ∨ cs.getD k 0 = 2) : found cs = 1 := by rw [h.open hk, if_neg (by omega), if_pos hc]
theorem FoundTo.iso {cs : List Int} {k : Nat} (h : FoundTo cs k) (hk : k < cs.length) (h0 : ¬ cs.getD k 0 = 0) (h1 : ¬ (cs.getD k 0 = 1 ∨ cs.getD k 0 = 2)) (hi : isoB (cs.getD k 0) = true) : FoundTo cs (mt cs k + 1) :=
  ⟨cs.length, by omega, by rw [h.open hk, if_neg h0, if_neg h1, if_pos hi]⟩
theorem FoundTo.next {cs : List Int} {k : Nat} (h : FoundTo cs k) (hk : k < cs.length) (h0 : ¬ cs.getD k 0 = 0) (h1 : ¬ (cs.getD k 0 = 1 ∨ cs.getD k 0 = 2)) (hi : isoB (cs.getD k 0) = false) : FoundTo cs (k + 1) :=
  ⟨cs.length, by omega, by rw [h.open hk, if_neg h0, if_neg h1, if_neg (by rw [hi]; decide)]⟩

set_option maxHeartbeats 2000000 in
theorem found_row (cs : List Int) (b off cap len : Nat) (w : World) (hl : cs.length = len) (hn : len ≤ 1000000) (hc : IntsAt w b off cs) :
    Calls Tryz.prog 70 #[.slice (some ⟨b, off, none⟩) len cap] w fun e w' => e = .returned (.int .i64 (found cs)) ∧ w' = w := by
  have HC : Hid (IntsAt w b off cs) := hc
  have HL : Hid (cs.length = len) := hl
  clear hc hl
  go_enter Tryz.func70, Tryz.ntmps70
  go_wp2
  go_loop [3] (fun i => ∃ k : Nat, k ≤ len + 1 ∧ i = .int .i64 k ∧ FoundTo cs k) (fun i => len + 1 - (intOf i).toNat)
  case atStart => exact ⟨0, by omega, rfl, FoundTo.start cs⟩
  case round =>
    obtain ⟨k, hk, rfl, hT⟩ := hrel
    have HT : Hid (FoundTo cs k) := hT
    clear hT
    by_cases hlt : k < len
    · have hcell := HC.out k (by rw [HL.out]; exact hlt)
      obtain ⟨c, hx⟩ : ∃ c, c = cs.getD k 0 := ⟨_, rfl⟩
      rw [← hx] at hcell
      have HX : Hid (c = cs.getD k 0) := hx
      have HK : Hid (k < cs.length) := by show k < cs.length; rw [HL.out]; exact hlt
      clear hx
      by_cases h0 : c = 0
      · have HV : Hid (found cs = 0) := HT.out.zero HK.out (by rw [← HX.out]; exact h0)
        have h0' : (c == 0) = true := by simpa using h0
        clear h0
        go_wp2
        go_ret
        exact ⟨ret_int (by rw [HV.out]), rfl⟩
      have h0' : (c == 0) = false := by simpa using h0
      by_cases h1 : c = 1
      · have HV : Hid (found cs = 1) := HT.out.one HK.out (by rw [← HX.out]; exact .inl h1)
        have h1' : (c == 1) = true := by simpa using h1
        clear h0 h1
        go_wp2
        go_ret
        exact ⟨ret_int (by rw [HV.out]), rfl⟩
      have h1' : (c == 1) = false := by simpa using h1
      by_cases h2 : c = 2
      · have HV : Hid (found cs = 1) := HT.out.one HK.out (by rw [← HX.out]; exact .inr h2)
        have h2' : (c == 2) = true := by simpa using h2
        clear h0 h1 h2
        go_wp2
        go_ret
        exact ⟨ret_int (by rw [HV.out]), rfl⟩
      have h2' : (c == 2) = false := by simpa using h2
      have HI0 : Hid (¬ cs.getD k 0 = 0) := by show ¬ _; rw [← HX.out]; exact h0
      have HI1 : Hid (¬ (cs.getD k 0 = 1 ∨ cs.getD k 0 = 2)) := by show ¬ _; rw [← HX.out]; omega
      clear h0 h1 h2
      go_wp2_with fail
      refine (isolate_any c w).mono ?_
      rintro e w' ⟨rfl, rfl⟩
      cases hq : isoB c
      · have HN : Hid (FoundTo cs (k + 1)) := HT.out.next HK.out HI0.out HI1.out (by rw [← HX.out]; exact hq)
        clear hq
        go_wp2
        go_round
        case rel => exact ⟨k + 1, by omega, by go_num, HN.out⟩
        case measure => simp [intOf]; omega
      · have HN : Hid (FoundTo cs (mt cs k + 1)) := HT.out.iso HK.out HI0.out HI1.out (by rw [← HX.out]; exact hq)
        have hm := mt_le cs k (Nat.le_of_lt HK.out)
        have HM : Hid (Calls Tryz.prog 115 #[.slice (some ⟨b, off, none⟩) len cap, .int .i64 k] w' fun e w2 => e = .returned (.int .i64 (mt cs k)) ∧ w2 = w') :=
          matching_row cs k b off cap len w' HL.out hn (by omega) HC.out
        rw [HL.out] at hm
        generalize mt cs k = q at *
        clear hq
        go_wp2_with fail
        refine HM.out.mono ?_
        rintro e w2 ⟨rfl, rfl⟩
        go_wp2
        go_round
        case rel => exact ⟨q + 1, by omega, by go_num, HN.out⟩
        case measure => simp [intOf]; omega
    · have HV : Hid (found cs = 0) := HT.out.stop (by rw [HL.out]; exact hlt)
      go_wp2
      go_ret
      exact ⟨ret_int (by rw [HV.out]), rfl⟩
end Go.Proofs.YtkbinfhclaafhaaGreatDoor
