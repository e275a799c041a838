import Derived.Test.YtkbinfhclaafhaaDoorEqU
namespace Go.Proofs.YtkbinfhclaafhaaDoor
open Go.RowKit

/-! The parts of a text are all of it, one behind the other: what the law asks, of lists of numbers. -/
/-- How long the lines are, from a place on. -/
def lensF (s : ByteArray) (bg i : Nat) : List Nat :=
  if i < s.size then if bt s i = 10 then (i - bg) :: lensF s (i + 1) (i + 1) else lensF s bg (i + 1) else [i - bg]
termination_by s.size - i
theorem lensF_nl {s : ByteArray} {bg i : Nat} (h : i < s.size) (hb : bt s i = 10) : lensF s bg i = (i - bg) :: lensF s (i + 1) (i + 1) := by rw [lensF, if_pos h, if_pos hb]
theorem lensF_go {s : ByteArray} {bg i : Nat} (h : i < s.size) (hb : ¬ bt s i = 10) : lensF s bg i = lensF s bg (i + 1) := by rw [lensF, if_pos h, if_neg hb]
theorem lensF_end {s : ByteArray} {bg i : Nat} (h : ¬ i < s.size) : lensF s bg i = [i - bg] := by rw [lensF, if_neg h]
theorem lensF_head (s : ByteArray) (bg i : Nat) : ∃ m ms, lensF s bg i = m :: ms ∧ i - bg ≤ m := by
  fun_induction lensF s bg i with
  | case1 bg i h1 h2 ih => exact ⟨_, _, rfl, Nat.le_refl _⟩
  | case2 bg i h1 h2 ih =>
    obtain ⟨m, ms, h, hm⟩ := ih
    exact ⟨m, ms, h, by omega⟩
  | case3 bg i h1 => exact ⟨_, _, rfl, Nat.le_refl _⟩
/-- What the law asks of the parts, from a line and a place in it on. -/
def jn (L : List Nat) (line p : Nat) : List PR → Prop
  | [] => line < L.length ∧ p = L.getD line 0 ∧ ∀ k, line < k → k < L.length → L.getD k 0 = 0
  | x :: xs => line ≤ x.line ∧ x.line < L.length ∧ (line < x.line → p = L.getD line 0 ∧ ∀ k, line < k → k < x.line → L.getD k 0 = 0) ∧ x.from_ = (if line < x.line then 0 else p) ∧ x.from_ < x.to_ ∧ x.to_ ≤ L.getD x.line 0 ∧ jn L x.line x.to_ xs
/-- The law's place, against the document's. -/
def JR (L : List Nat) (line pc ln bg fr : Nat) : Prop := bg ≤ fr ∧ ((line = ln ∧ pc = fr - bg) ∨ (line < ln ∧ pc = L.getD line 0 ∧ (∀ k, line < k → k < ln → L.getD k 0 = 0) ∧ fr = bg))
theorem drop_head {L : List Nat} {ln m : Nat} {ms : List Nat} (h : L.drop ln = m :: ms) : ln < L.length ∧ L.getD ln 0 = m ∧ L.drop (ln + 1) = ms := by
  have hl : ln < L.length := by
    rcases Nat.lt_or_ge ln L.length with h1 | h1
    · exact h1
    · rw [List.drop_of_length_le h1] at h; cases h
  rw [List.drop_eq_getElem_cons hl] at h
  injection h with h1 h2
  exact ⟨hl, by rw [List.getD_eq_getElem?_getD, List.getElem?_eq_getElem hl]; exact h1, h2⟩
theorem emit_jn {s : ByteArray} {L : List Nat} {line pc ln bg fr p k B E : Nat} {R : List PR} (h : JR L line pc ln bg fr) (hf : fr ≤ p) (hL : L.drop ln = lensF s bg p) (hR : ∀ line' pc', JR L line' pc' ln bg p → jn L line' pc' R) : jn L line pc (emitD ln k bg fr p B E ++ R) := by
  obtain ⟨hb, h⟩ := h
  obtain ⟨m, ms, hm, hmp⟩ := lensF_head s bg p
  obtain ⟨h1, h2, _⟩ := drop_head (hL.trans hm)
  unfold emitD
  by_cases hfp : fr < p
  · rw [if_pos hfp]
    refine ⟨?_, h1, ?_, ?_, ?_, ?_, hR _ _ ⟨by omega, .inl ⟨rfl, rfl⟩⟩⟩
    · show line ≤ ln; omega
    · intro hlt
      have hlt' : line < ln := hlt
      rcases h with ⟨h3, _⟩ | ⟨_, h4, h5, _⟩
      · omega
      · exact ⟨h4, h5⟩
    · show fr - bg = if line < ln then 0 else pc
      rcases h with ⟨h3, h4⟩ | ⟨h3, _, _, h4⟩
      · rw [if_neg (by omega), h4]
      · rw [if_pos h3]; omega
    · show fr - bg < p - bg; omega
    · show p - bg ≤ L.getD ln 0; omega
  · rw [if_neg hfp]
    obtain rfl : fr = p := by omega
    exact hR line pc ⟨hb, h⟩
theorem JR.feed {s : ByteArray} {L : List Nat} {line pc ln bg p : Nat} (h : JR L line pc ln bg p) (hp : p < s.size) (hb : bt s p = 10) (hL : L.drop ln = lensF s bg p) : JR L line pc (ln + 1) (p + 1) (p + 1) := by
  rw [lensF_nl hp hb] at hL
  obtain ⟨h1, h2, _⟩ := drop_head hL
  obtain ⟨h0, h⟩ := h
  refine ⟨Nat.le_refl _, .inr ?_⟩
  rcases h with ⟨rfl, h4⟩ | ⟨h3, h4, h5, h6⟩
  · exact ⟨by omega, by omega, fun k _ _ => by omega, rfl⟩
  · refine ⟨by omega, h4, fun k k1 k2 => ?_, rfl⟩
    by_cases hk : k = ln
    · rw [hk, h2]; omega
    · exact h5 k k1 (by omega)
theorem seg_jn {s : ByteArray} {L : List Nat} {k T B E ln bg fr p line pc : Nat} {R : List PR} (hT : T ≤ s.size) (h : JR L line pc ln bg fr) (hf : fr ≤ p) (hp : p ≤ T) (hL : L.drop ln = lensF s bg p)
    (hR : ∀ line' pc' ln' bg', endL s T ln bg p = (ln', bg') → L.drop ln' = lensF s bg' T → JR L line' pc' ln' bg' T → jn L line' pc' R) : jn L line pc (segR s k T B E ln bg fr p ++ R) := by
  by_cases hlt : p < T
  · by_cases hb : bt s p = 10
    · rw [segR_nl hlt hb, List.append_assoc]
      refine emit_jn h hf hL fun line' pc' hJ => ?_
      have hL2 := hL
      rw [lensF_nl (by omega) hb] at hL2
      exact seg_jn hT (hJ.feed (by omega) hb hL) (Nat.le_refl _) hlt (drop_head hL2).2.2 (fun l2 p2 n2 b2 he hd hj => hR l2 p2 n2 b2 (by rw [endL_nl hlt hb]; exact he) hd hj)
    · rw [segR_go hlt hb]
      rw [lensF_go (by omega) hb] at hL
      exact seg_jn hT h (by omega) hlt hL (fun l2 p2 n2 b2 he hd hj => hR l2 p2 n2 b2 (by rw [endL_go hlt hb]; exact he) hd hj)
  · obtain rfl : p = T := by omega
    rw [segR_end hlt]
    exact emit_jn h hf hL fun line' pc' hJ => hR line' pc' ln bg (endL_end hlt) hL hJ
termination_by T - p
theorem wordT_end {s : ByteArray} {p : Nat} (hp : p < s.size) : (wordT s p).T ≤ s.size := by
  unfold wordT
  split
  · exact qR_tail (by omega)
  · split
    · exact lineEnd_le (by omega)
    · split
      · rename_i h
        have := bt_lt (s := s) (i := p + 1) (by rw [h.2]; decide)
        exact bR_le (by omega)
      · simp only; omega
/-- Tokens one behind the other, up to the text's end. -/
def CC (s : ByteArray) : Nat → List Tk → Prop
  | p, [] => p = s.size
  | p, t :: ts => t.F = p ∧ t.F < t.T ∧ t.T ≤ s.size ∧ CC s t.T ts
theorem CC.cons {s : ByteArray} {t : Tk} {ts : List Tk} (h : CC s t.T ts) (h2 : t.F < t.T) (h3 : t.T ≤ s.size) : CC s t.F (consT t ts) := by
  unfold consT
  split
  · cases ts with
    | nil => exact ⟨rfl, h2, h3, h⟩
    | cons u us =>
      obtain ⟨k1, k2, k3, k4⟩ := h
      simp only
      split
      · exact ⟨rfl, by simp only; omega, k3, k4⟩
      · exact ⟨rfl, h2, h3, k1, k2, k3, k4⟩
  · exact ⟨rfl, h2, h3, h⟩
theorem CC_toksR (s : ByteArray) (p : Nat) (hp : p ≤ s.size) : CC s p (toksR s p) := by
  rw [toksR]
  split
  · rename_i h
    have h0 := CC_toksR s (wordT s p).T (wordT_end h)
    have hF := wordT_F s p
    have := CC.cons h0 (by have := wordT_gt s p; omega) (wordT_end h)
    rw [hF] at this
    exact this
  · show p = s.size; omega
termination_by s.size - p
decreasing_by have := wordT_gt s p; omega
theorem doc_jn {s : ByteArray} {L : List Nat} : ∀ (ts : List Tk) (p ln bg line pc : Nat), CC s p ts → JR L line pc ln bg p → L.drop ln = lensF s bg p → jn L line pc (docD s ts ln bg)
  | [], p, ln, bg, line, pc, hc, h, hL => by
    have hc' : p = s.size := hc
    rw [lensF_end (by omega)] at hL
    obtain ⟨h1, h2, h3⟩ := drop_head hL
    have h4 : L.length = ln + 1 := by have := congrArg List.length hL; simp at this; omega
    obtain ⟨h0, h⟩ := h
    rcases h with ⟨rfl, h6⟩ | ⟨h6, h7, h8, h9⟩
    · exact ⟨h1, by omega, fun k _ _ => by omega⟩
    · refine ⟨by omega, h7, fun k k1 k2 => ?_⟩
      by_cases hk : k = ln
      · rw [hk, h2]; omega
      · exact h8 k k1 (by omega)
  | t :: ts, p, ln, bg, line, pc, hc, h, hL => by
    obtain ⟨h1, h2, h3, h4⟩ := hc
    rw [docD]
    subst h1
    refine seg_jn h3 h (Nat.le_refl _) (by omega) hL fun l2 p2 n2 b2 he hd hj => ?_
    rw [he]
    exact doc_jn ts t.T n2 b2 l2 p2 h4 hj hd
theorem joined_doc (s : ByteArray) : jn (lensF s 0 0) 0 0 (docD s (toksR s 0) 0 0) :=
  doc_jn _ 0 0 0 0 0 (CC_toksR s 0 (by omega)) ⟨Nat.le_refl _, .inl ⟨rfl, rfl⟩⟩ rfl
end Go.Proofs.YtkbinfhclaafhaaDoor
