import Derived.Test.YtkbinfhclaafhaaDoorEqT
namespace Go.Proofs.YtkbinfhclaafhaaDoor
open Go.RowKit

/-! The document's parts are what the machine tells. -/
theorem toksR_word {s : ByteArray} {a : Nat} (h : a < s.size) (hk : (wordT s a).k ≠ 0) : toksR s a = wordT s a :: toksR s (wordT s a).T := by
  rw [toksR, if_pos h]
  unfold consT
  exact if_neg hk
theorem cut0_open {hd : Nat} {ln bg fr bo a : Nat} : openS hd ⟨ln, bg, fr, bo, a⟩ false = ⟨ln, bg, a, a + hd, a + hd⟩ := by
  unfold openS
  rw [cutS_false]
  unfold cutP
  split
  · rename_i h; simp only at h; simp only [Nat.add_zero] at h ⊢; rw [h]
  · simp only [Nat.add_zero]
theorem run_doc (s : ByteArray) : ∀ (d ln bg fr bo a : Nat), s.size - a ≤ d → fr ≤ a → a ≤ s.size → runP s false ⟨ln, bg, fr, bo, a⟩ = docC s ln bg fr a (toksR s a) := by
  intro d
  induction d with
  | zero =>
    intro ln bg fr bo a hd hf ha
    have hn : ¬ a < s.size := by omega
    rw [toksR_end hn, runP, if_neg hn]
    exact emit_emitD hf 0 0 (fun h => absurd rfl h) (fun h => absurd rfl h)
  | succ d ih =>
    intro ln bg fr bo a hd hf ha
    have H : ∀ ln bg a', a < a' → a' ≤ s.size → runP s false ⟨ln, bg, a', a', a'⟩ = docD s (toksR s a') ln bg := fun ln bg a' h1 h2 => by
      rw [ih ln bg a' a' a' (by omega) (Nat.le_refl _) h2, docC_start]
    have hem : emitP 0 0 ⟨ln, bg, fr, bo, a⟩ = emitD ln 0 bg fr a 0 0 := emit_emitD hf 0 0 (fun h => absurd rfl h) (fun h => absurd rfl h)
    have hdC : ∀ (u : Tk) us, u.k ≠ 0 → docC s ln bg fr a (u :: us) = emitD ln 0 bg fr a 0 0 ++ docD s (u :: us) ln bg := fun u us hk => if_neg hk
    by_cases hlt : a < s.size
    · by_cases h34 : bt s a = 34
      · have hw : wordT s a = ⟨1, a, (qR s (a + 1)).1 + qT s (a + 1), a + 1, (qR s (a + 1)).1⟩ := by unfold wordT; rw [if_pos h34]
        have hq := le_qR s (a + 1)
        have ht := qR_tail (s := s) (i := a + 1) (by omega)
        rw [toksR_word hlt (by rw [hw]; exact Nat.succ_ne_zero _), hdC _ _ (by rw [hw]; exact Nat.succ_ne_zero _), hw, docD, runP, if_pos hlt, if_neg (by decide), if_pos h34, hem]
        obtain ⟨f1, f2⟩ := seg_flat (s := s) (k := 1) (T := (qR s (a + 1)).1 + qT s (a + 1)) (B := a + 1) (E := (qR s (a + 1)).1) (ln := ln) (bg := bg) (fr := a) ((qR s (a + 1)).1 + qT s (a + 1) - a) a (by omega) (fun i h1 h2 => by
          by_cases h3 : i = a
          · rw [h3, h34]; decide
          · exact qR_flat i (by omega) h2)
        simp only
        rw [f1, f2, cut0_open]
        have hcut : cutP (qT s (a + 1)) (mvP ⟨ln, bg, a, a + 1, a + 1⟩ (qR s (a + 1)).1) = ⟨ln, bg, (qR s (a + 1)).1 + qT s (a + 1), (qR s (a + 1)).1 + qT s (a + 1), (qR s (a + 1)).1 + qT s (a + 1)⟩ := by
          unfold cutP mvP; rw [if_neg (by simp only; omega)]
        rw [hcut, H _ _ _ (by omega) ht]
        congr 2
        exact emit_emitD (p := mvP ⟨ln, bg, a, a + 1, a + 1⟩ (qR s (a + 1)).1) (by show a ≤ (qR s (a + 1)).1; omega) (a + 1) (qR s (a + 1)).1 (fun _ => by show wi (a + 1) a ((qR s (a + 1)).1 + _) = a + 1; rw [wi_lo (by omega), if_neg (by omega)]) (fun _ => by show wi (qR s (a + 1)).1 a ((qR s (a + 1)).1 + _) = (qR s (a + 1)).1; rw [wi_lo (by omega), if_neg (by omega)])
      · by_cases hlc : bt s a = 47 ∧ bt s (a + 1) = 47
        · have hle : lineEnd s a = lineEnd s (a + 2) := by rw [lineEnd_step (by rw [hlc.1]; decide), lineEnd_step (by rw [hlc.2]; decide)]
          have hw : wordT s a = ⟨2, a, lineEnd s (a + 2), a + 2, lineEnd s (a + 2)⟩ := by unfold wordT; rw [if_neg h34, if_pos hlc, hle]
          have h2 := bt_lt (s := s) (i := a + 1) (by rw [hlc.2]; decide)
          have hq := le_lineEnd s (a + 2)
          have ht := lineEnd_le (s := s) (i := a + 2) (by omega)
          rw [toksR_word hlt (by rw [hw]; exact Nat.succ_ne_zero _), hdC _ _ (by rw [hw]; exact Nat.succ_ne_zero _), hw, docD, runP, if_pos hlt, if_neg (by decide), if_neg h34, if_pos hlc, hem]
          obtain ⟨f1, f2⟩ := seg_flat (s := s) (k := 2) (T := lineEnd s (a + 2)) (B := a + 2) (E := lineEnd s (a + 2)) (ln := ln) (bg := bg) (fr := a) (lineEnd s (a + 2) - a) a (by omega) (fun i h1 h2 => lineEnd_flat (i := a) i h1 (by rw [hle]; exact h2))
          simp only
          rw [f1, f2, cut0_open]
          have hcut : cutP 0 (mvP ⟨ln, bg, a, a + 2, a + 2⟩ (lineEnd s (a + 2))) = ⟨ln, bg, lineEnd s (a + 2), lineEnd s (a + 2), lineEnd s (a + 2)⟩ := by
            unfold cutP mvP; rw [if_neg (by simp only; omega)]; rfl
          rw [hcut, H _ _ _ (by omega) ht]
          congr 2
          exact emit_emitD (p := mvP ⟨ln, bg, a, a + 2, a + 2⟩ (lineEnd s (a + 2))) (by show a ≤ lineEnd s (a + 2); omega) (a + 2) (lineEnd s (a + 2)) (fun _ => by show wi (a + 2) a (lineEnd s (a + 2) + 0) = a + 2; rw [wi_lo (by omega), if_neg (by omega)]) (fun _ => by show wi (lineEnd s (a + 2)) a (lineEnd s (a + 2) + 0) = lineEnd s (a + 2); rw [wi_lo (by omega), if_neg (by omega)])
        · by_cases hbb : bt s a = 47 ∧ bt s (a + 1) = 42
          · have hw : wordT s a = ⟨2, a, (bR s (a + 2)).1 + bT s (a + 2), a + 2, (bR s (a + 2)).1⟩ := by unfold wordT; rw [if_neg h34, if_neg hlc, if_pos hbb]
            have h2 := bt_lt (s := s) (i := a + 1) (by rw [hbb.2]; decide)
            have hq := le_bR s (a + 2)
            have k1 : ¬ bt s a = 10 := by rw [hbb.1]; decide
            have k2 : ¬ bt s (a + 1) = 10 := by rw [hbb.2]; decide
            rw [toksR_word hlt (by rw [hw]; exact Nat.succ_ne_zero _), hdC _ _ (by rw [hw]; exact Nat.succ_ne_zero _), hw, docD, runP, if_pos hlt, if_neg (by decide), if_neg h34, if_neg hlc, if_pos hbb, hem, cut0_open]
            simp only
            rw [block_doc s a H (s.size - (a + 2)) (a + 2) ln bg a (a + 2) (a + 2) (Nat.le_refl _) (by omega) (by omega) (by omega) (Nat.le_refl _) (by rw [if_neg (by omega)])]
            rw [segR_go (p := a) (by omega) k1, segR_go (p := a + 1) (by omega) k2, endL_go (p := a) (by omega) k1, endL_go (p := a + 1) (by omega) k2]
          · have hw : wordT s a = ⟨0, a, a + 1, 0, 0⟩ := by unfold wordT; rw [if_neg h34, if_neg hlc, if_neg hbb]
            have hts : toksR s a = consT ⟨0, a, a + 1, 0, 0⟩ (toksR s (a + 1)) := by rw [toksR, if_pos hlt, hw]
            rw [hts, docC_step s ln bg fr a (toksR s (a + 1)) (fun u us h => by obtain ⟨e1, e2, _⟩ := toksR_head s (a + 1) u us h; exact ⟨e2, e1⟩), runP, if_pos hlt, if_neg (by decide), if_neg h34, if_neg hlc, if_neg hbb]
            by_cases h10 : bt s a = 10
            · rw [if_pos h10, if_pos h10, hem]
              have hcut : feedP (cutP 0 ⟨ln, bg, fr, bo, a⟩) = ⟨ln + 1, a + 1, a + 1, a + 1, a + 1⟩ := by
                have h1 := cutP_at (t := 0) (p := ⟨ln, bg, fr, bo, a⟩)
                have h2 : (cutP 0 ⟨ln, bg, fr, bo, a⟩).line = ln := by rw [← cutS_false, cutS_line]
                unfold feedP
                rw [h1, h2]
              rw [hcut, ih (ln + 1) (a + 1) (a + 1) (a + 1) (a + 1) (by omega) (Nat.le_refl _) (by omega)]
            · rw [if_neg h10, if_neg h10]
              exact ih ln bg fr bo (a + 1) (by omega) (by omega) (by omega)
    · have hn : ¬ a < s.size := hlt
      rw [toksR_end hn, runP, if_neg hn]
      exact emit_emitD hf 0 0 (fun h => absurd rfl h) (fun h => absurd rfl h)
/-- The document's parts of a text. -/
theorem parts_doc (s : ByteArray) : runP s false ⟨0, 0, 0, 0, 0⟩ = docD s (toksR s 0) 0 0 := by
  rw [run_doc s s.size 0 0 0 0 0 (by omega) (Nat.le_refl _) (Nat.zero_le _), docC_start]
end Go.Proofs.YtkbinfhclaafhaaDoor
