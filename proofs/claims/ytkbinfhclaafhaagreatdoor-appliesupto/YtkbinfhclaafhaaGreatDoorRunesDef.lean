import Derived.Test.YtkbinfhclaafhaaGreatDoorSizeDec
import Derived.Test.YtkbinfhclaafhaaGreatDoorClassDone
import Derived.Test.YtkbinfhclaafhaaGreatDoorClassBetween
import Derived.Lib.Strings
import Derived.Lib.IndexBytes
namespace Go.Proofs.YtkbinfhclaafhaaGreatDoor
open Go.RowKit

theorem class_any (r : Int) (w : World) :
    Calls Tryz.prog 69 #[.int .i64 r] w fun e w' => e = .returned (.int .i64 (cls r)) ∧ Below w.heap.size w w' := by
  by_cases h : Between r
  · exact class_between r w h
  · exact class_done r w h

/-- The rune that begins at a place; how many bytes it takes (0: none begins there). -/
def runeAt (s : ByteArray) (p : Nat) : Int := ((Utf8.decode s p).1 : Int)
def szAt (s : ByteArray) (p : Nat) : Nat := szN (s.size - p) (s.get! p).toNat (s.get! (p + 1)).toNat (s.get! (p + 2)).toNat (s.get! (p + 3)).toNat
def runesFrom (s : ByteArray) : Nat → Nat → Option (List Int)
  | 0, _ => some []
  | f + 1, p => if p < s.size then (if szAt s p = 0 then none else (runesFrom s f (p + szAt s p)).map (runeAt s p :: ·)) else some []
/-- The runes of a text; none: it is no valid one. -/
def runesOf (s : ByteArray) : Option (List Int) := runesFrom s s.size 0

theorem extract_get (s : ByteArray) (p k : Nat) (h : p + k < s.size) : (s.extract p s.size).get! k = s.get! (p + k) := by
  have h' : k < (s.extract p s.size).size := by simp [ByteArray.size_extract]; omega
  rw [get_eq _ _ h', get_eq _ _ h]
  simp [ByteArray.getElem_extract]
theorem size_extract_end (s : ByteArray) (p : Nat) : (s.extract p s.size).size = s.size - p := by simp [ByteArray.size_extract]

theorem szN_cut (n b0 b1 b2 b3 c1 c2 c3 : Nat) (h1 : 1 < n → b1 = c1) (h2 : 2 < n → b2 = c2) (h3 : 3 < n → b3 = c3) : szN n b0 b1 b2 b3 = szN n b0 c1 c2 c3 := by
  have : Lib.decodeN n b0 b1 b2 b3 = Lib.decodeN n b0 c1 c2 c3 := by
    unfold Lib.decodeN
    by_cases n1 : 1 < n
    · rw [h1 n1]
      by_cases n2 : 2 < n
      · rw [h2 n2]
        by_cases n3 : 3 < n
        · rw [h3 n3]
        · simp [n3]
      · have n3 : ¬ 3 < n := by omega
        simp [n2]
    · simp [n1]
  unfold szN
  rw [this]
theorem sz_extract (s : ByteArray) (p : Nat) (h : p < s.size) : sz (s.extract p s.size) = szAt s p := by
  unfold sz szAt
  rw [size_extract_end, extract_get s p 0 (by omega)]
  refine szN_cut _ _ _ _ _ _ _ _ (fun h => ?_) (fun h => ?_) (fun h => ?_)
  · rw [extract_get s p 1 (by omega)]
  · rw [extract_get s p 2 (by omega)]
  · rw [extract_get s p 3 (by omega)]

/-- What a place's bytes are, by how many the rune takes. -/
theorem sz_cases (s : ByteArray) (p : Nat) (_h : p < s.size) (h0 : szAt s p ≠ 0) :
    (szAt s p = 1 ∧ (s.get! p).toNat < 128 ∧ runeAt s p = ((s.get! p).toNat : Int)) ∨
    (szAt s p = 2 ∧ p + 2 ≤ s.size ∧ 194 ≤ (s.get! p).toNat ∧ (s.get! p).toNat < 224 ∧ 128 ≤ (s.get! (p + 1)).toNat ∧ (s.get! (p + 1)).toNat ≤ 191 ∧ runeAt s p = 64 * (((s.get! p).toNat : Int) % 32) + ((s.get! (p + 1)).toNat : Int) - 128) ∨
    (szAt s p = 3 ∧ p + 3 ≤ s.size ∧ 224 ≤ (s.get! p).toNat ∧ (s.get! p).toNat < 240 ∧ 128 ≤ (s.get! (p + 1)).toNat ∧ (s.get! (p + 1)).toNat ≤ 191 ∧ 128 ≤ (s.get! (p + 2)).toNat ∧ (s.get! (p + 2)).toNat ≤ 191 ∧
      runeAt s p = 64 * (64 * (((s.get! p).toNat : Int) % 16) + ((s.get! (p + 1)).toNat : Int) - 128) + ((s.get! (p + 2)).toNat : Int) - 128) ∨
    (szAt s p = 4 ∧ p + 4 ≤ s.size ∧ 240 ≤ (s.get! p).toNat ∧ (s.get! p).toNat < 245 ∧ 128 ≤ (s.get! (p + 1)).toNat ∧ (s.get! (p + 1)).toNat ≤ 191 ∧ 128 ≤ (s.get! (p + 2)).toNat ∧ (s.get! (p + 2)).toNat ≤ 191 ∧ 128 ≤ (s.get! (p + 3)).toNat ∧ (s.get! (p + 3)).toNat ≤ 191 ∧
      runeAt s p = 64 * (64 * (64 * (((s.get! p).toNat : Int) % 8) + ((s.get! (p + 1)).toNat : Int) - 128) + ((s.get! (p + 2)).toNat : Int) - 128) + ((s.get! (p + 3)).toNat : Int) - 128) := by
  unfold runeAt
  rw [Lib.decode_at]
  unfold szAt at h0 ⊢
  have l0 := (s.get! p).toNat_lt
  have l1 := (s.get! (p + 1)).toNat_lt
  have l2 := (s.get! (p + 2)).toNat_lt
  have l3 := (s.get! (p + 3)).toNat_lt
  generalize (s.get! p).toNat = b0 at *
  generalize (s.get! (p + 1)).toNat = b1 at *
  generalize (s.get! (p + 2)).toNat = b2 at *
  generalize (s.get! (p + 3)).toNat = b3 at *
  obtain ⟨n, hn⟩ : ∃ n, n = s.size - p := ⟨_, rfl⟩
  rw [← hn] at h0 ⊢
  by_cases a : b0 < 128
  · left; rw [szN_of (dec_asc a) (by omega), dec_asc a]; exact ⟨rfl, a, rfl⟩
  by_cases b : b0 < 194
  · exact absurd (szN_bad (dec_bad1 (by omega) b)) h0
  by_cases c : 245 ≤ b0
  · exact absurd (szN_bad (dec_bad2 c (by omega))) h0
  by_cases d : b0 < 224
  · by_cases e : n < 2 ∨ b1 < 128 ∨ 191 < b1
    · exact absurd (szN_bad (dec_2bad (by omega) d (by omega) e)) h0
    · have hd := dec_2ok (n := n) (b0 := b0) (b1 := b1) (b2 := b2) (b3 := b3) (by omega) d (by omega) (by omega) (by omega)
      right; left; rw [szN_of hd (by omega), hd]
      exact ⟨rfl, by omega, by omega, by omega, by omega, by omega, by omega⟩
  by_cases f : b0 < 240
  · by_cases e : n < 3 ∨ b1 < 128 ∨ 191 < b1 ∨ b2 < 128 ∨ 191 < b2
    · exact absurd (szN_bad (dec_3bad (by omega) f (by omega) (by omega) e)) h0
    · by_cases g : b0 % 16 * 4096 + b1 % 64 * 64 + b2 % 64 < 2048 ∨ (55296 ≤ b0 % 16 * 4096 + b1 % 64 * 64 + b2 % 64 ∧ b0 % 16 * 4096 + b1 % 64 * 64 + b2 % 64 ≤ 57343)
      · exact absurd (szN_bad (dec_3off (by omega) f g)) h0
      · have hd := dec_3ok (n := n) (b0 := b0) (b1 := b1) (b2 := b2) (b3 := b3) (by omega) f (by omega) (by omega) (by omega) (by omega) (by omega) (by omega) (by omega)
        right; right; left; rw [szN_of hd (by omega), hd]
        exact ⟨rfl, by omega, by omega, by omega, by omega, by omega, by omega, by omega, by omega⟩
  by_cases e : n < 4 ∨ b1 < 128 ∨ 191 < b1 ∨ b2 < 128 ∨ 191 < b2 ∨ b3 < 128 ∨ 191 < b3
  · exact absurd (szN_bad (dec_4bad (by omega) (by omega) (by omega) (by omega) (by omega) e)) h0
  · by_cases g : b0 % 8 * 262144 + b1 % 64 * 4096 + b2 % 64 * 64 + b3 % 64 < 65536 ∨ 1114111 < b0 % 8 * 262144 + b1 % 64 * 4096 + b2 % 64 * 64 + b3 % 64
    · exact absurd (szN_bad (dec_4off (by omega) (by omega) g)) h0
    · have hd := dec_4ok (n := n) (b0 := b0) (b1 := b1) (b2 := b2) (b3 := b3) (by omega) (by omega) (by omega) (by omega) (by omega) (by omega) (by omega) (by omega) (by omega) (by omega) (by omega)
      right; right; right; rw [szN_of hd (by omega), hd]
      exact ⟨rfl, by omega, by omega, by omega, by omega, by omega, by omega, by omega, by omega, by omega, by omega⟩
end Go.Proofs.YtkbinfhclaafhaaGreatDoor
