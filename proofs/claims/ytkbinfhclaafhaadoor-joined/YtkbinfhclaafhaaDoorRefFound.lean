import Derived.Test.YtkbinfhclaafhaaDoorRefSmall
namespace Go.Proofs.YtkbinfhclaafhaaDoor
open Go.RowKit

def FoundTo (cs : List Int) (k : Nat) : Prop := ∃ f, cs.length ≤ k + f ∧ found cs = foundF cs f k
theorem FoundTo.start (cs : List Int) : FoundTo cs 0 := ⟨cs.length, by omega, rfl⟩
theorem FoundTo.open {cs : List Int} {k : Nat} (h : FoundTo cs k) (hk : k < cs.length) : found cs = (if cs.getD k 0 = 0 then 0 else if cs.getD k 0 = 1 ∨ cs.getD k 0 = 2 then 1 else if isoB (cs.getD k 0) = true then foundF cs cs.length (mt cs k + 1) else foundF cs cs.length (k + 1)) := by
  obtain ⟨f, hf, e⟩ := h
  cases f with
  | zero => omega
  | succ f =>
    rw [e, foundF, if_pos hk]
    have hm := mt_le cs k (by omega)
    rw [foundF_any cs f cs.length (mt cs k + 1) (by omega) (by omega), foundF_any cs f cs.length (k + 1) (by omega) (by omega)]
theorem FoundTo.stop {cs : List Int} {k : Nat} (h : FoundTo cs k) (hk : ¬ k < cs.length) : found cs = 0 := by
  obtain ⟨f, hf, e⟩ := h
  rw [e]
  cases f with
  | zero => rfl
  | succ f => rw [foundF, if_neg hk]
theorem FoundTo.zero {cs : List Int} {k : Nat} (h : FoundTo cs k) (hk : k < cs.length) (hc : cs.getD k 0 = 0) : found cs = 0 := by rw [h.open hk, if_pos hc]
theorem FoundTo.one {cs : List Int} {k : Nat} (h : FoundTo cs k) (hk : k < cs.length) (hc : cs.getD k 0 = 1 ∨ cs.getD k 0 = 2) : found cs = 1 := by rw [h.open hk, if_neg (by omega), if_pos hc]
theorem FoundTo.iso {cs : List Int} {k : Nat} (h : FoundTo cs k) (hk : k < cs.length) (h0 : ¬ cs.getD k 0 = 0) (h1 : ¬ (cs.getD k 0 = 1 ∨ cs.getD k 0 = 2)) (hi : isoB (cs.getD k 0) = true) : FoundTo cs (mt cs k + 1) :=
  ⟨cs.length, by omega, by rw [h.open hk, if_neg h0, if_neg h1, if_pos hi]⟩
theorem FoundTo.next {cs : List Int} {k : Nat} (h : FoundTo cs k) (hk : k < cs.length) (h0 : ¬ cs.getD k 0 = 0) (h1 : ¬ (cs.getD k 0 = 1 ∨ cs.getD k 0 = 2)) (hi : isoB (cs.getD k 0) = false) : FoundTo cs (k + 1) :=
  ⟨cs.length, by omega, by rw [h.open hk, if_neg h0, if_neg h1, if_neg (by rw [hi]; decide)]⟩

end Go.Proofs.YtkbinfhclaafhaaDoor
