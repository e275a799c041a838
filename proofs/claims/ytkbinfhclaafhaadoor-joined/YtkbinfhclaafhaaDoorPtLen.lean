import Derived.Test.YtkbinfhclaafhaaDoorPtLoop
namespace Go.Proofs.YtkbinfhclaafhaaDoor
open Go.RowKit

/-! A text has no more parts than bytes. -/
theorem emit_len (k t : Nat) (p : RP) (hb : p.from_ ≤ p.at_) : (emitP k t p).length ≤ (cutP t p).from_ - p.from_ ∧ p.from_ ≤ (cutP t p).from_ ∧ (cutP t p).from_ ≤ (cutP t p).at_ := by
  unfold emitP cutP
  split
  · simp only [List.length_nil]; omega
  · simp only [List.length_cons, List.length_nil]; omega
theorem openS_from (hd : Nat) (p : RP) : (openS hd p false).from_ = (cutP 0 p).from_ := by unfold openS; rw [cutS_false]
theorem runP_len (s : ByteArray) (blk : Bool) (p : RP) (hb : p.from_ ≤ p.at_) (he : p.at_ ≤ s.size) : (runP s blk p).length ≤ s.size - p.from_ := by
  fun_induction runP s blk p with
  | case1 p h1 h2 ih =>
    have e := emit_len 2 2 p hb
    have hc := cutP_at (t := 2) (p := p)
    have h3 := bt_lt (s := s) (i := p.at_ + 1) (by rw [h2.2]; decide)
    have := ih e.2.2 (by rw [cutP_at]; omega)
    rw [List.length_append]
    omega
  | case2 p h1 h2 h3 ih =>
    have e := emit_len 2 0 p hb
    have hc := cutP_at (t := 0) (p := p)
    have hf : (feedP (cutP 0 p)).from_ = (cutP 0 p).at_ + 1 := rfl
    have hg : (feedP (cutP 0 p)).at_ = (cutP 0 p).at_ + 1 := rfl
    have := ih (by omega) (by rw [hg, cutP_at]; omega)
    rw [List.length_append]
    omega
  | case3 p h1 h2 h3 ih =>
    have hf : (mvP p (p.at_ + 1)).from_ = p.from_ := rfl
    have hg : (mvP p (p.at_ + 1)).at_ = p.at_ + 1 := rfl
    have := ih (by omega) (by omega)
    omega
  | case4 blk p h1 h2 h3 ih =>
    have e := emit_len 0 0 p hb
    have hf : (mvP (openS 1 p false) (qR s (p.at_ + 1)).1).from_ = (cutP 0 p).from_ := openS_from 1 p
    have hg : (mvP (openS 1 p false) (qR s (p.at_ + 1)).1).at_ = (qR s (p.at_ + 1)).1 := rfl
    have hq := le_qR s (p.at_ + 1)
    have hc := cutP_at (t := 0) (p := p)
    have e2 := emit_len 1 (qT s (p.at_ + 1)) (mvP (openS 1 p false) (qR s (p.at_ + 1)).1) (by omega)
    have hc2 := cutP_at (t := qT s (p.at_ + 1)) (p := mvP (openS 1 p false) (qR s (p.at_ + 1)).1)
    have ht := qR_tail (s := s) (i := p.at_ + 1) (by omega)
    have := ih e2.2.2 (by rw [cutP_at, hg]; exact ht)
    rw [List.length_append, List.length_append]
    omega
  | case5 blk p h1 h2 h3 h4 ih =>
    have e := emit_len 0 0 p hb
    have hf : (mvP (openS 2 p false) (lineEnd s (p.at_ + 2))).from_ = (cutP 0 p).from_ := openS_from 2 p
    have hg : (mvP (openS 2 p false) (lineEnd s (p.at_ + 2))).at_ = lineEnd s (p.at_ + 2) := rfl
    have hq := le_lineEnd s (p.at_ + 2)
    have hc := cutP_at (t := 0) (p := p)
    have h5 := bt_lt (s := s) (i := p.at_ + 1) (by rw [h4.2]; decide)
    have e2 := emit_len 2 0 (mvP (openS 2 p false) (lineEnd s (p.at_ + 2))) (by omega)
    have hc2 := cutP_at (t := 0) (p := mvP (openS 2 p false) (lineEnd s (p.at_ + 2)))
    have hl := lineEnd_le (s := s) (i := p.at_ + 2) (by omega)
    have := ih e2.2.2 (by rw [cutP_at, hg]; omega)
    rw [List.length_append, List.length_append]
    omega
  | case6 blk p h1 h2 h3 h4 h5 ih =>
    have e := emit_len 0 0 p hb
    have hf := openS_from 2 p
    have hg := openS_at (hd := 2) (p := p) (st := false)
    have hc := cutP_at (t := 0) (p := p)
    have h6 := bt_lt (s := s) (i := p.at_ + 1) (by rw [h5.2]; decide)
    have := ih (by omega) (by omega)
    rw [List.length_append]
    omega
  | case7 blk p h1 h2 h3 h4 h5 h6 ih =>
    have e := emit_len 0 0 p hb
    have hc := cutP_at (t := 0) (p := p)
    have hf : (feedP (cutP 0 p)).from_ = (cutP 0 p).at_ + 1 := rfl
    have hg : (feedP (cutP 0 p)).at_ = (cutP 0 p).at_ + 1 := rfl
    have := ih (by omega) (by rw [hg, cutP_at]; omega)
    rw [List.length_append]
    omega
  | case8 blk p h1 h2 h3 h4 h5 h6 ih =>
    have hf : (mvP p (p.at_ + 1)).from_ = p.from_ := rfl
    have hg : (mvP p (p.at_ + 1)).at_ = p.at_ + 1 := rfl
    have := ih (by omega) (by omega)
    omega
  | case9 blk p h1 =>
    have e := emit_len (if blk = true then 2 else 0) 0 p hb
    have hc := cutP_at (t := 0) (p := p)
    omega
theorem partsX_len (s : ByteArray) : (partsX s).length ≤ 600 := by
  unfold partsX
  split
  · have := runP_len s false startP (Nat.le_refl _) (Nat.zero_le _)
    omega
  · simp
/-- What is told where the loop is left behind n. -/
def takeX (n : Int) (l : List PR) : List PR := if 0 < n ∧ n < l.length then l.take n.toNat else l
theorem told_eq {s : ByteArray} {n : Int} {l : List PR} (h : (l = partsX s ∧ GoesOn n l) ∨ (l <+: partsX s ∧ Stops n l)) : l = takeX n (partsX s) := by
  have hX := partsX_len s
  unfold takeX
  rcases h with ⟨rfl, h1, h2⟩ | ⟨hp, h1, h2⟩
  · rw [if_neg (by rintro ⟨h3, h4⟩; exact h1 ⟨by omega, by omega⟩)]
  · have hl := hp.length_le
    have hn : (l.length : Int) = n := by rcases h1 with h | h <;> omega
    have e := List.prefix_iff_eq_take.1 hp
    split
    · rw [← hn, Int.toNat_natCast]; exact e
    · rw [e, List.take_of_length_le (by omega)]
end Go.Proofs.YtkbinfhclaafhaaDoor
