import Derived.Test.YtkbinfhclaafhaaDoorPtMach
namespace Go.Proofs.YtkbinfhclaafhaaDoor
open Go.RowKit

/-! The document's tokens and parts; they are what the machine tells. -/
structure Tk where
  k : Nat
  F : Nat
  T : Nat
  B : Nat
  E : Nat
/-- Where a comment ends that q stands in, and whether by its sign. -/
def bR (s : ByteArray) (q : Nat) : Nat × Bool :=
  if q < s.size then if bt s q = 42 ∧ bt s (q + 1) = 47 then (q, true) else bR s (q + 1) else (q, false)
termination_by s.size - q
def bT (s : ByteArray) (q : Nat) : Nat := if (bR s q).2 then 2 else 0
theorem le_bR (s : ByteArray) (q : Nat) : q ≤ (bR s q).1 := by
  fun_induction bR s q <;> simp_all <;> omega
theorem bR_le {s : ByteArray} {q : Nat} (h : q ≤ s.size) : (bR s q).1 + bT s q ≤ s.size := by
  unfold bT
  fun_induction bR s q with
  | case1 q h1 h2 => have := bt_lt (s := s) (i := q + 1) (by rw [h2.2]; decide); simp; omega
  | case2 q h1 h2 ih => exact ih (by omega)
  | case3 q h1 => simp; omega
def wordT (s : ByteArray) (p : Nat) : Tk :=
  if bt s p = 34 then ⟨1, p, (qR s (p + 1)).1 + qT s (p + 1), p + 1, (qR s (p + 1)).1⟩
  else if bt s p = 47 ∧ bt s (p + 1) = 47 then ⟨2, p, lineEnd s p, p + 2, lineEnd s p⟩
  else if bt s p = 47 ∧ bt s (p + 1) = 42 then ⟨2, p, (bR s (p + 2)).1 + bT s (p + 2), p + 2, (bR s (p + 2)).1⟩
  else ⟨0, p, p + 1, 0, 0⟩
theorem lineEnd_step {s : ByteArray} {p : Nat} (h : bt s p ≠ 10) : lineEnd s p = lineEnd s (p + 1) := by
  rw [lineEnd, if_pos ⟨bt_lt h, h⟩]
theorem wordT_gt (s : ByteArray) (p : Nat) : p < (wordT s p).T := by
  unfold wordT
  split
  · have := le_qR s (p + 1); simp only; omega
  · split
    · rename_i h
      simp only
      rw [lineEnd_step (by rw [h.1]; decide)]
      have := le_lineEnd s (p + 1); omega
    · split
      · have := le_bR s (p + 2); simp only; omega
      · simp
theorem wordT_F (s : ByteArray) (p : Nat) : (wordT s p).F = p := by unfold wordT; repeat (first | rfl | split)
theorem wordT_code (s : ByteArray) (p : Nat) (h : (wordT s p).k = 0) : wordT s p = ⟨0, p, p + 1, 0, 0⟩ := by
  unfold wordT at h ⊢
  by_cases h1 : bt s p = 34
  · rw [if_pos h1] at h; cases h
  · rw [if_neg h1] at h ⊢
    by_cases h2 : bt s p = 47 ∧ bt s (p + 1) = 47
    · rw [if_pos h2] at h; cases h
    · rw [if_neg h2] at h ⊢
      by_cases h3 : bt s p = 47 ∧ bt s (p + 1) = 42
      · rw [if_pos h3] at h; cases h
      · rw [if_neg h3]
def consT (t : Tk) (ts : List Tk) : List Tk :=
  if t.k = 0 then
    match ts with
    | u :: us => if u.k = 0 then ⟨0, t.F, u.T, 0, 0⟩ :: us else t :: u :: us
    | [] => [t]
  else t :: ts
def toksR (s : ByteArray) (p : Nat) : List Tk := if p < s.size then consT (wordT s p) (toksR s (wordT s p).T) else []
termination_by s.size - p
decreasing_by have := wordT_gt s p; omega
def wi (p lo hi : Nat) : Nat := if p < lo then lo else if hi < p then hi else p
def emitD (ln k bg fr p B E : Nat) : List PR := if fr < p then [⟨ln, k, fr - bg, p - bg, if k = 0 then 0 else wi B fr p - bg, if k = 0 then 0 else wi E fr p - bg⟩] else []
def segR (s : ByteArray) (k T B E ln bg fr p : Nat) : List PR :=
  if p < T then if bt s p = 10 then emitD ln k bg fr p B E ++ segR s k T B E (ln + 1) (p + 1) (p + 1) (p + 1) else segR s k T B E ln bg fr (p + 1)
  else emitD ln k bg fr p B E
termination_by T - p
def endL (s : ByteArray) (T ln bg p : Nat) : Nat × Nat :=
  if p < T then if bt s p = 10 then endL s T (ln + 1) (p + 1) (p + 1) else endL s T ln bg (p + 1)
  else (ln, bg)
termination_by T - p
section
variable {s : ByteArray} {k T B E ln bg fr p : Nat}
theorem segR_nl (h : p < T) (hb : bt s p = 10) : segR s k T B E ln bg fr p = emitD ln k bg fr p B E ++ segR s k T B E (ln + 1) (p + 1) (p + 1) (p + 1) := by rw [segR, if_pos h, if_pos hb]
theorem segR_go (h : p < T) (hb : ¬ bt s p = 10) : segR s k T B E ln bg fr p = segR s k T B E ln bg fr (p + 1) := by rw [segR, if_pos h, if_neg hb]
theorem segR_end (h : ¬ p < T) : segR s k T B E ln bg fr p = emitD ln k bg fr p B E := by rw [segR, if_neg h]
theorem endL_nl (h : p < T) (hb : bt s p = 10) : endL s T ln bg p = endL s T (ln + 1) (p + 1) (p + 1) := by rw [endL, if_pos h, if_pos hb]
theorem endL_go (h : p < T) (hb : ¬ bt s p = 10) : endL s T ln bg p = endL s T ln bg (p + 1) := by rw [endL, if_pos h, if_neg hb]
theorem endL_end (h : ¬ p < T) : endL s T ln bg p = (ln, bg) := by rw [endL, if_neg h]
end
def docD (s : ByteArray) : List Tk → Nat → Nat → List PR
  | [], _, _ => []
  | t :: ts, ln, bg => segR s t.k t.T t.B t.E ln bg t.F t.F ++ docD s ts (endL s t.T ln bg t.F).1 (endL s t.T ln bg t.F).2
/-- What is told behind a piece of code that began at fr, from a on. -/
def docC (s : ByteArray) (ln bg fr a : Nat) : List Tk → List PR
  | [] => emitD ln 0 bg fr a 0 0
  | u :: us => if u.k = 0 then segR s 0 u.T 0 0 ln bg fr a ++ docD s us (endL s u.T ln bg a).1 (endL s u.T ln bg a).2 else emitD ln 0 bg fr a 0 0 ++ docD s (u :: us) ln bg
/-- The head of a text's tokens. -/
theorem toksR_head (s : ByteArray) (p : Nat) : ∀ u us, toksR s p = u :: us → u.F = p ∧ p < u.T ∧ (u.k = 0 → u.B = 0 ∧ u.E = 0) := by
  intro u us h
  rw [toksR] at h
  split at h
  · unfold consT at h
    have hw := wordT_gt s p
    have hF := wordT_F s p
    split at h
    · rename_i hk
      have hBE : (wordT s p).B = 0 ∧ (wordT s p).E = 0 := by rw [wordT_code s p hk]; exact ⟨rfl, rfl⟩
      split at h
      · rename_i u' us' he
        split at h
        · injection h with h1 h2
          subst h1
          refine ⟨hF, ?_, fun _ => ⟨rfl, rfl⟩⟩
          have := toksR_head s (wordT s p).T u' us' he
          simp only
          omega
        · injection h with h1 h2
          subst h1
          exact ⟨hF, hw, fun _ => hBE⟩
      · injection h with h1 h2
        subst h1
        exact ⟨hF, hw, fun _ => hBE⟩
    · injection h with h1 h2
      subst h1
      rename_i hk
      exact ⟨hF, hw, fun e => absurd e hk⟩
  · cases h
termination_by s.size - p
decreasing_by have := wordT_gt s p; omega
theorem emitD_nil (ln k bg p B E : Nat) : emitD ln k bg p p B E = [] := if_neg (by omega)
/-- At a token's beginning nothing is pending. -/
theorem docC_start (s : ByteArray) (ln bg p : Nat) : docC s ln bg p p (toksR s p) = docD s (toksR s p) ln bg := by
  cases h : toksR s p with
  | nil => exact emitD_nil _ _ _ _ _ _
  | cons u us =>
    obtain ⟨hF, hT, hBE⟩ := toksR_head s p u us h
    show (if u.k = 0 then _ else _) = _
    by_cases hk : u.k = 0
    · obtain ⟨hB, hE⟩ := hBE hk
      rw [if_pos hk, docD, hF, hk, hB, hE]
    · rw [if_neg hk, emitD_nil, List.nil_append]
/-- One byte of code. -/
theorem docC_step (s : ByteArray) (ln bg fr a : Nat) (ts : List Tk) (hts : ∀ u us, ts = u :: us → a + 1 < u.T ∧ u.F = a + 1) :
    docC s ln bg fr a (consT ⟨0, a, a + 1, 0, 0⟩ ts) = if bt s a = 10 then emitD ln 0 bg fr a 0 0 ++ docC s (ln + 1) (a + 1) (a + 1) (a + 1) ts else docC s ln bg fr (a + 1) ts := by
  unfold consT
  rw [if_pos rfl]
  cases ts with
  | nil =>
    show segR s 0 (a + 1) 0 0 ln bg fr a ++ docD s [] _ _ = _
    rw [docD, List.append_nil]
    by_cases hb : bt s a = 10
    · rw [if_pos hb, segR_nl (by omega) hb, segR_end (by omega)]; rfl
    · rw [if_neg hb, segR_go (by omega) hb, segR_end (by omega)]; rfl
  | cons u us =>
    obtain ⟨h1, _⟩ := hts u us rfl
    simp only
    by_cases hk : u.k = 0
    · rw [if_pos hk]
      show segR s 0 u.T 0 0 ln bg fr a ++ docD s us (endL s u.T ln bg a).1 (endL s u.T ln bg a).2 = _
      have e1 : ∀ ln bg fr, docC s ln bg fr (a + 1) (u :: us) = segR s 0 u.T 0 0 ln bg fr (a + 1) ++ docD s us (endL s u.T ln bg (a + 1)).1 (endL s u.T ln bg (a + 1)).2 := fun _ _ _ => if_pos hk
      rw [e1, e1]
      by_cases hb : bt s a = 10
      · rw [if_pos hb, segR_nl (by omega) hb, endL_nl (by omega) hb, List.append_assoc]
      · rw [if_neg hb, segR_go (by omega) hb, endL_go (by omega) hb]
    · rw [if_neg hk]
      show segR s 0 (a + 1) 0 0 ln bg fr a ++ docD s (u :: us) (endL s (a + 1) ln bg a).1 (endL s (a + 1) ln bg a).2 = _
      have e1 : ∀ ln bg fr, docC s ln bg fr (a + 1) (u :: us) = emitD ln 0 bg fr (a + 1) 0 0 ++ docD s (u :: us) ln bg := fun _ _ _ => if_neg hk
      rw [e1, e1]
      by_cases hb : bt s a = 10
      · rw [if_pos hb, segR_nl (by omega) hb, endL_nl (by omega) hb, segR_end (by omega), endL_end (by omega), List.append_assoc]
      · rw [if_neg hb, segR_go (by omega) hb, endL_go (by omega) hb, segR_end (by omega), endL_end (by omega)]
/-- A piece without a line feed. -/
theorem seg_flat {s : ByteArray} {k T B E ln bg fr : Nat} : ∀ (d p : Nat), T = p + d → (∀ i, p ≤ i → i < T → bt s i ≠ 10) → segR s k T B E ln bg fr p = emitD ln k bg fr T B E ∧ endL s T ln bg p = (ln, bg)
  | 0, p, hT, _ => by
    have : ¬ p < T := by omega
    obtain rfl : p = T := by omega
    exact ⟨segR_end this, endL_end this⟩
  | d + 1, p, hT, hb => by
    have h := hb p (Nat.le_refl _) (by omega)
    rw [segR_go (by omega) h, endL_go (by omega) h]
    exact seg_flat d (p + 1) (by omega) (fun i h1 h2 => hb i (by omega) h2)
theorem emit_emitD {k t : Nat} {p : RP} (hb : p.from_ ≤ p.at_) (B E : Nat) (hB : k ≠ 0 → wi B p.from_ (p.at_ + t) = p.body) (hE : k ≠ 0 → wi E p.from_ (p.at_ + t) = p.at_) : emitP k t p = emitD p.line k p.start p.from_ (p.at_ + t) B E := by
  unfold emitP emitD
  by_cases h : p.from_ = p.at_ + t
  · rw [if_pos h, if_neg (by omega)]
  · have h' : p.from_ < p.at_ + t := by omega
    by_cases hk : k = 0
    · simp [h, h', hk]
    · simp [h, h', hk, hB hk, hE hk]
theorem qR_flat {s : ByteArray} {i : Nat} : ∀ j, i ≤ j → j < (qR s i).1 + qT s i → bt s j ≠ 10 := by
  unfold qT
  fun_induction qR s i with
  | case1 i h1 h2 => intro j h3 h4; simp at h4; obtain rfl : j = i := by omega
                     rw [h2]; decide
  | case2 i h1 h2 h3 ih =>
    intro j h4 h5
    by_cases h6 : j = i
    · rw [h6]; exact h1.2
    · by_cases h7 : j = i + 1
      · rw [h7]; exact h3.2
      · exact ih j (by omega) h5
  | case3 i h1 h2 h3 ih =>
    intro j h4 h5
    by_cases h6 : j = i
    · rw [h6]; exact h1.2
    · exact ih j (by omega) h5
  | case4 i h1 => intro j h3 h4; simp at h4; omega
theorem lineEnd_flat {s : ByteArray} {i : Nat} : ∀ j, i ≤ j → j < lineEnd s i → bt s j ≠ 10 := by
  fun_induction lineEnd s i with
  | case1 i h1 ih =>
    intro j h2 h3
    by_cases h6 : j = i
    · rw [h6]; exact h1.2
    · exact ih j (by omega) h3
  | case2 i h1 => intro j h2 h3; omega
theorem bR_hit {s : ByteArray} {a : Nat} (h : a < s.size) (hb : bt s a = 42 ∧ bt s (a + 1) = 47) : bR s a = (a, true) := by rw [bR, if_pos h, if_pos hb]
theorem bR_go {s : ByteArray} {a : Nat} (h : a < s.size) (hb : ¬ (bt s a = 42 ∧ bt s (a + 1) = 47)) : bR s a = bR s (a + 1) := by rw [bR, if_pos h, if_neg hb]
theorem bR_end {s : ByteArray} {a : Nat} (h : ¬ a < s.size) : bR s a = (a, false) := by rw [bR, if_neg h]
theorem toksR_end {s : ByteArray} {a : Nat} (h : ¬ a < s.size) : toksR s a = [] := by rw [toksR, if_neg h]
theorem wi_lo {p lo hi : Nat} (h : p ≤ hi) : wi p lo hi = if p < lo then lo else p := by unfold wi; split; rfl; rw [if_neg (by omega)]
theorem wi_hi {p lo hi : Nat} (h : lo ≤ hi) (h2 : hi ≤ p) : wi p lo hi = hi := by unfold wi; split; omega; split <;> omega
theorem block_doc (s : ByteArray) (c : Nat) (H : ∀ ln bg a', c < a' → a' ≤ s.size → runP s false ⟨ln, bg, a', a', a'⟩ = docD s (toksR s a') ln bg) : ∀ (d a ln bg fr bo B : Nat), s.size - a ≤ d → c < a → fr ≤ a → a ≤ s.size → B ≤ a → bo = (if B < fr then fr else B) →
    runP s true ⟨ln, bg, fr, bo, a⟩ = segR s 2 ((bR s a).1 + bT s a) B (bR s a).1 ln bg fr a ++ docD s (toksR s ((bR s a).1 + bT s a)) (endL s ((bR s a).1 + bT s a) ln bg a).1 (endL s ((bR s a).1 + bT s a) ln bg a).2 := by
  intro d
  induction d with
  | zero =>
    intro a ln bg fr bo B hd hc hf ha hB hbo
    have hn : ¬ a < s.size := by omega
    have hT : (bR s a).1 + bT s a = a := by unfold bT; rw [bR_end hn]; simp
    have hE : (bR s a).1 = a := by rw [bR_end hn]
    rw [hT, hE, runP, if_neg hn, segR_end (by omega), toksR_end hn, docD, List.append_nil]
    exact emit_emitD hf B a (fun _ => by show wi B fr (a + 0) = bo; rw [wi_lo (by omega), hbo]) (fun _ => by show wi a fr (a + 0) = a; rw [wi_lo (by omega), if_neg (by omega)])
  | succ d ih =>
    intro a ln bg fr bo B hd hc hf ha hB hbo
    by_cases hlt : a < s.size
    · by_cases hh : bt s a = 42 ∧ bt s (a + 1) = 47
      · have hE : (bR s a).1 = a := by rw [bR_hit hlt hh]
        have hT : (bR s a).1 + bT s a = a + 2 := by unfold bT; rw [bR_hit hlt hh]; simp
        have h2 := bt_lt (s := s) (i := a + 1) (by rw [hh.2]; decide)
        obtain ⟨f1, f2⟩ := seg_flat (s := s) (k := 2) (T := a + 2) (B := B) (E := a) (ln := ln) (bg := bg) (fr := fr) 2 a rfl (fun i h3 h4 => by
          by_cases h5 : i = a
          · rw [h5, hh.1]; decide
          · rw [show i = a + 1 by omega, hh.2]; decide)
        rw [hT, hE, f1, f2, runP, if_pos hlt, if_pos rfl, if_pos hh]
        have hcut : cutP 2 ⟨ln, bg, fr, bo, a⟩ = ⟨ln, bg, a + 2, a + 2, a + 2⟩ := by unfold cutP; rw [if_neg (by simp only; omega)]
        rw [hcut, H ln bg (a + 2) (by omega) (by omega)]
        congr 1
        exact emit_emitD hf B a (fun _ => by show wi B fr (a + 2) = bo; rw [wi_lo (by omega), hbo]) (fun _ => by show wi a fr (a + 2) = a; rw [wi_lo (by omega), if_neg (by omega)])
      · have hg := bR_go hlt hh
        have hT : (bR s a).1 + bT s a = (bR s (a + 1)).1 + bT s (a + 1) := by unfold bT; rw [hg]
        have hl := le_bR s (a + 1)
        rw [hT, hg, runP, if_pos hlt, if_pos rfl, if_neg hh]
        by_cases h10 : bt s a = 10
        · rw [if_pos h10, segR_nl (by omega) h10, endL_nl (by omega) h10, List.append_assoc]
          have hcut : feedP (cutP 0 ⟨ln, bg, fr, bo, a⟩) = ⟨ln + 1, a + 1, a + 1, a + 1, a + 1⟩ := by
            have h1 := cutP_at (t := 0) (p := ⟨ln, bg, fr, bo, a⟩)
            have h2 : (cutP 0 ⟨ln, bg, fr, bo, a⟩).line = ln := by rw [← cutS_false, cutS_line]
            unfold feedP
            rw [h1, h2]
          rw [hcut, ih (a + 1) (ln + 1) (a + 1) (a + 1) (a + 1) B (by omega) (by omega) (by omega) (by omega) (by omega) (by rw [if_pos (by omega)])]
          congr 1
          exact emit_emitD hf B _ (fun _ => by show wi B fr (a + 0) = bo; rw [wi_lo (by omega), hbo]) (fun _ => by show wi _ fr (a + 0) = a; rw [wi_hi (by omega) (by omega)]; rfl)
        · rw [if_neg h10, segR_go (by omega) h10, endL_go (by omega) h10]
          exact ih (a + 1) ln bg fr bo B (by omega) (by omega) (by omega) (by omega) (by omega) hbo
    · have hn : ¬ a < s.size := hlt
      have hT : (bR s a).1 + bT s a = a := by unfold bT; rw [bR_end hn]; simp
      have hE : (bR s a).1 = a := by rw [bR_end hn]
      rw [hT, hE, runP, if_neg hn, segR_end (by omega), toksR_end hn, docD, List.append_nil]
      exact emit_emitD hf B a (fun _ => by show wi B fr (a + 0) = bo; rw [wi_lo (by omega), hbo]) (fun _ => by show wi a fr (a + 0) = a; rw [wi_lo (by omega), if_neg (by omega)])
end Go.Proofs.YtkbinfhclaafhaaDoor
