import Derived.Test.YtkbinfhclaafhaaGreatDoorAsked
import Derived.Lib.ValidU
import Derived.Lib.RuneCount
import Derived.Lib.Strings
namespace Go.Proofs.YtkbinfhclaafhaaGreatDoor
open Go.RowKit

theorem get_drop (s : ByteArray) (p k : Nat) : (⟨(s.data.toList.drop p).toArray⟩ : ByteArray).get! k = s.get! (p + k) := by
  obtain ⟨d⟩ := s
  show (d.toList.drop p).toArray[k]! = d[p + k]!
  by_cases h : p + k < d.size
  · have h1 : k < (d.toList.drop p).toArray.size := by simp; omega
    rw [getElem!_pos (d.toList.drop p).toArray k h1, getElem!_pos d (p + k) h]
    simp
  · have h1 : ¬ k < (d.toList.drop p).toArray.size := by simp; omega
    rw [getElem!_neg (d.toList.drop p).toArray k h1, getElem!_neg d (p + k) h]
theorem decodeL_drop (s : ByteArray) (p : Nat) (_h : p < s.size) : Lib.decodeL (s.data.toList.drop p) = Utf8.decode s p := by
  unfold Lib.decodeL
  rw [Lib.decode_at, Lib.decode_at]
  have e : (⟨(s.data.toList.drop p).toArray⟩ : ByteArray).size - 0 = s.size - p := by
    simp only [ByteArray.size]
    simp
  rw [e]
  simp only [get_drop, Nat.add_zero, Nat.zero_add]
theorem szAt_eq (s : ByteArray) (p : Nat) : szAt s p = if (Utf8.decode s p).1 = 65533 ∧ (Utf8.decode s p).2 = 1 then 0 else (Utf8.decode s p).2 := by
  unfold szAt szN
  rw [Lib.decode_at]
theorem szAt_width (s : ByteArray) (p : Nat) (h : szAt s p ≠ 0) : (Utf8.decode s p).2 = szAt s p := by
  rw [szAt_eq] at h ⊢
  split at h
  · exact absurd rfl h
  · rename_i h'; rw [if_neg h']

theorem validGo_eq (s : ByteArray) : ∀ f p, Lib.validGoD f (s.data.toList.drop p) = (runesFrom s f p).isSome
  | 0, _ => rfl
  | f + 1, p => by
    unfold Lib.validGoD runesFrom
    by_cases hp : p < s.size
    · have hne : ¬ s.data.toList.drop p = [] := by
        rw [List.drop_eq_nil_iff]
        simp only [Array.length_toList]
        exact Nat.not_le.2 hp
      rw [if_neg hne, if_pos hp, decodeL_drop s p hp]
      by_cases hz : (Utf8.decode s p).1 = 65533 ∧ (Utf8.decode s p).2 = 1
      · have h0 : szAt s p = 0 := by rw [szAt_eq, if_pos hz]
        rw [if_pos hz, if_pos h0]
        rfl
      · have h0 : szAt s p ≠ 0 := by
          rw [szAt_eq, if_neg hz]
          have := Lib.width_pos s p
          omega
        rw [if_neg hz, if_neg h0, szAt_width s p h0, List.drop_drop, validGo_eq s f (p + szAt s p)]
        simp
    · have he : s.data.toList.drop p = [] := by
        rw [List.drop_eq_nil_iff]
        simp only [Array.length_toList]
        exact Nat.not_lt.1 hp
      rw [if_pos he, if_neg hp]
      rfl
theorem valid_eq (s : ByteArray) : Lib.validD s.data.toList = (runesOf s).isSome := by
  have := validGo_eq s s.size 0
  rw [List.drop_zero] at this
  unfold Lib.validD runesOf
  rw [← this]
  congr 1

theorem count_eq (s : ByteArray) : ∀ f p l, runesFrom s f p = some l → Lib.runeCountFrom s f p = l.length
  | 0, _, l, h => by simp [runesFrom] at h; subst h; rfl
  | f + 1, p, l, h => by
    unfold runesFrom at h
    unfold Lib.runeCountFrom
    by_cases hp : p < s.size
    · rw [if_pos hp] at h ⊢
      by_cases h0 : szAt s p = 0
      · rw [if_pos h0] at h; cases h
      · rw [if_neg h0] at h
        cases hr : runesFrom s f (p + szAt s p) with
        | none => rw [hr] at h; cases h
        | some l' =>
          rw [hr] at h
          simp at h
          subst h
          rw [szAt_width s p h0, count_eq s f _ l' hr]
          simp; omega
    · rw [if_neg hp] at h ⊢
      simp at h; subst h; rfl
theorem runeCount_eq {s : ByteArray} {l : List Int} (h : runesOf s = some l) : Lib.runeCount s = l.length := count_eq s s.size 0 l h

theorem feed_from (s : ByteArray) : ∀ f p l, s.size ≤ p + f → runesFrom s f p = some l → (amongB 10 l = true ↔ ∃ q, p ≤ q ∧ q < s.size ∧ (s.get! q).toNat = 10)
  | 0, p, l, hf, h => by
    simp [runesFrom] at h; subst h
    simp only [amongB, List.contains_nil, Bool.false_eq_true, false_iff]
    rintro ⟨q, h1, h2, _⟩; omega
  | f + 1, p, l, hf, h => by
    unfold runesFrom at h
    by_cases hp : p < s.size
    · rw [if_pos hp] at h
      by_cases h0 : szAt s p = 0
      · rw [if_pos h0] at h; cases h
      · rw [if_neg h0] at h
        cases hr : runesFrom s f (p + szAt s p) with
        | none => rw [hr] at h; cases h
        | some l' =>
          rw [hr] at h
          simp at h
          subst h
          have ih := feed_from s f (p + szAt s p) l' (by omega) hr
          have key : runeAt s p = 10 ↔ ∃ q, p ≤ q ∧ q < p + szAt s p ∧ (s.get! q).toNat = 10 := by
            have hi : (s.get! p).toNat = (s[p]'hp).toNat := by rw [get_eq s p hp]
            rcases sz_cases s p hp h0 with ⟨e1, h1, hr'⟩ | ⟨e1, hn, h1, h2, h3, h4, _⟩ | ⟨e1, hn, h1, h2, h3, h4, h5, h6, _⟩ | ⟨e1, hn, h1, h2, h3, h4, h5, h6, h7, h8, _⟩
            · constructor
              · intro h; exact ⟨p, by omega, by omega, by omega⟩
              · rintro ⟨q, h1, h2, h3⟩
                have : q = p := by omega
                subst this; omega
            all_goals
              have hd := (decode_high s p hp (by omega)).1
              constructor
              · intro h; unfold runeAt at h; omega
              · rintro ⟨q, g1, g2, g3⟩
                have : q = p ∨ q = p + 1 ∨ q = p + 2 ∨ q = p + 3 := by omega
                rcases this with rfl | rfl | rfl | rfl <;> omega
          have hc : amongB 10 (runeAt s p :: l') = true ↔ runeAt s p = 10 ∨ amongB 10 l' = true := by
            simp only [amongB, List.contains_cons, Bool.or_eq_true, beq_iff_eq]
            constructor
            · rintro (h | h)
              · exact .inl h.symm
              · exact .inr h
            · rintro (h | h)
              · exact .inl h.symm
              · exact .inr h
          have hle : p + szAt s p ≤ s.size := by
            rcases sz_cases s p hp h0 with ⟨e1, _⟩ | ⟨e1, hn, _⟩ | ⟨e1, hn, _⟩ | ⟨e1, hn, _⟩ <;> omega
          rw [hc, key, ih]
          constructor
          · rintro (⟨q, h1, h2, h3⟩ | ⟨q, h1, h2, h3⟩)
            · exact ⟨q, h1, by omega, h3⟩
            · exact ⟨q, by omega, h2, h3⟩
          · rintro ⟨q, h1, h2, h3⟩
            by_cases hq : q < p + szAt s p
            · exact .inl ⟨q, h1, hq, h3⟩
            · exact .inr ⟨q, by omega, h2, h3⟩
    · rw [if_neg hp] at h
      simp at h; subst h
      simp only [amongB, List.contains_nil, Bool.false_eq_true, false_iff]
      rintro ⟨q, h1, h2, _⟩; omega
theorem feed_eq {s : ByteArray} {l : List Int} (h : runesOf s = some l) : s.data.toList.contains 10 = amongB 10 l := by
  rw [Bool.eq_iff_iff, feed_from s s.size 0 l (by omega) h]
  rw [List.contains_iff_mem, List.mem_iff_getElem]
  constructor
  · rintro ⟨q, hq, e⟩
    have hq' : q < s.size := by simpa using hq
    refine ⟨q, by omega, hq', ?_⟩
    rw [get_eq s q hq']
    have : s[q]'hq' = 10 := (show s.data[q]'hq' = 10 from by simpa using e)
    rw [this]; rfl
  · rintro ⟨q, _, hq, e⟩
    refine ⟨q, by simpa using hq, ?_⟩
    rw [get_eq s q hq] at e
    have : s.data[q]'hq = 10 := UInt8.toNat_inj.1 (by show (s[q]'hq).toNat = _; rw [e]; rfl)
    simpa using this
end Go.Proofs.YtkbinfhclaafhaaGreatDoor
