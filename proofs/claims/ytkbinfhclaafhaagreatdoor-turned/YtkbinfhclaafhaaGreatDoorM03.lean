import Derived.Test.YtkbinfhclaafhaaGreatDoorM02
import Derived.Test.YtkbinfhclaafhaaGreatDoorM01
namespace Go.Proofs.YtkbinfhclaafhaaGreatDoor
def pass {σ : Type} (f : σ → Int → List Int → Int) (g : σ → Int → List Int → σ) : σ → List Int → List Int
 | _, [] => []
 | s, c :: r => f s c r :: pass f g (g s c r) r
def PassTo {σ : Type} (f : σ → Int → List Int → Int) (g : σ → Int → List Int → σ) (s0 : σ) (t : List Int) (k : Nat) (s : σ) (t' : List Int) : Prop :=
 ∃ pre, pre.length = k ∧ t' = pre ++ t.drop k ∧ pass f g s0 t = pre ++ pass f g s (t.drop k)
section
variable {σ : Type} {f : σ → Int → List Int → Int} {g : σ → Int → List Int → σ} {s0 s : σ} {t t' : List Int} {k : Nat}
theorem pass_length : ∀ (t : List Int) (s : σ), (pass f g s t).length = t.length
 | [], _ => rfl
 | c :: r, s => by simp [pass, pass_length r]
theorem PassTo.start (f : σ → Int → List Int → Int) (g : σ → Int → List Int → σ) (s0 : σ) (t : List Int) : PassTo f g s0 t 0 s0 t := ⟨[], rfl, by simp, by simp⟩
theorem PassTo.stop (h : PassTo f g s0 t k s t') (hk : ¬ k < t.length) : t' = pass f g s0 t := by
 obtain ⟨pre, _, h2, h3⟩ := h
 rw [List.drop_eq_nil_of_le (by omega)] at h2 h3
 rw [h2, h3]; rfl
theorem PassTo.at (h : PassTo f g s0 t k s t') (j : Nat) (hj : k ≤ j) : t'.getD j 0 = t.getD j 0 := by
 obtain ⟨pre, h1, h2, _⟩ := h
 rw [h2, List.getD_eq_getElem?_getD, List.getElem?_append_right (by omega), h1, List.getElem?_drop, show k + (j - k) = j by omega, List.getD_eq_getElem?_getD]
theorem PassTo.step (h : PassTo f g s0 t k s t') (hk : k < t.length) (v : Int) (s' : σ) (hv : v = f s (t.getD k 0) (t.drop (k + 1))) (hs : s' = g s (t.getD k 0) (t.drop (k + 1))) : PassTo f g s0 t (k + 1) s' (t'.set k v) := by
 obtain ⟨pre, h1, h2, h3⟩ := h
 refine ⟨pre ++ [v], by simp [h1], ?_, ?_⟩
 ·rw [h2, drop_at hk, List.set_append_right _ _ (by omega), h1, Nat.sub_self]
  simp
 ·rw [h3, drop_at hk, pass, ← hv, ← hs]
  simp
theorem PassTo.same (h : PassTo f g s0 t k s t') (hk : k < t.length) : t'.set k (t.getD k 0) = t' := by
 obtain ⟨pre, h1, h2, _⟩ := h
 rw [h2, drop_at hk, List.set_append_right _ _ (by omega), h1, Nat.sub_self]; rfl
theorem PassTo.stay (h : PassTo f g s0 t k s t') (hk : k < t.length) (s' : σ) (hv : t.getD k 0 = f s (t.getD k 0) (t.drop (k + 1))) (hs : s' = g s (t.getD k 0) (t.drop (k + 1))) : PassTo f g s0 t (k + 1) s' t' := by
 have := h.step hk (t.getD k 0) s' hv hs
 rwa [h.same hk] at this
theorem PassTo.length (h : PassTo f g s0 t k s t') (hk : k ≤ t.length) : t'.length = t.length := by
 obtain ⟨pre, h1, h2, _⟩ := h
 rw [h2]; simp [h1]; omega
theorem PassTo.prev (h : PassTo f g s0 t k s t') (hk : k < t.length) (v : Int) : (t'.set k v).getD k 0 = v := by
 have := h.length (by omega)
 rw [List.getD_eq_getElem?_getD, List.getElem?_set_self (by omega)]; rfl
end
def Ahead (t' : List Int) (k : Nat) (s : Option Int) : Prop := (k = 0 ∧ s = none) ∨ (0 < k ∧ s = some (t'.getD (k - 1) 0))
def f1 (sos : Int) (s : Option Int) (c : Int) (_r : List Int) : Int := if c = 8 then (match s with | none => sos | some p => if isoB p = true ∨ p = 21 then 12 else p) else c
def g1 (sos : Int) (s : Option Int) (c : Int) (r : List Int) : Option Int := some (f1 sos s c r)
def f3 (_ : Unit) (c : Int) (_ : List Int) : Int := if c = 2 then 1 else c
def g3 (_ : Unit) (_ : Int) (_ : List Int) : Unit := ()
def f4 (s : Option Int) (c : Int) (r : List Int) : Int := match s, r with
 | some a, d :: _ => if a = d ∧ ((c = 4 ∧ a = 3) ∨ (c = 7 ∧ (a = 3 ∨ a = 6))) then a else c
 | _, _ => c
def g4 (s : Option Int) (c : Int) (r : List Int) : Option Int := some (f4 s c r)
def etNext : List Int → Bool
 | [] => false
 | c :: r => if c = 5 then etNext r else c == 3
def f5 (s : Option Int) (c : Int) (r : List Int) : Int := if c = 5 ∧ (s = some 3 ∨ etNext r = true) then 3 else c
def g5 (s : Option Int) (c : Int) (r : List Int) : Option Int := some (f5 s c r)
def f6 (_ : Unit) (c : Int) (_ : List Int) : Int := if c = 4 ∨ c = 5 ∨ c = 7 then 12 else c
theorem f1_not {sos c : Int} {s : Option Int} {r : List Int} (h : ¬ c = 8) : f1 sos s c r = c := by unfold f1; rw [if_neg h]
theorem f3_not {c : Int} {r : List Int} (h : ¬ c = 2) : f3 () c r = c := by unfold f3; rw [if_neg h]
theorem f6_hit {c : Int} {r : List Int} (h : c = 4 ∨ c = 5 ∨ c = 7) : f6 () c r = 12 := by unfold f6; rw [if_pos h]
theorem f6_not {c : Int} {r : List Int} (h : ¬ (c = 4 ∨ c = 5 ∨ c = 7)) : f6 () c r = c := by unfold f6; rw [if_neg h]
theorem f4_first {c : Int} {r : List Int} : f4 none c r = c := by unfold f4; rfl
theorem f4_last {s : Option Int} {c : Int} : f4 s c [] = c := by unfold f4; cases s <;> rfl
theorem f4_mid {a d c : Int} {r : List Int} : f4 (some a) c (d :: r) = if a = d ∧ ((c = 4 ∧ a = 3) ∨ (c = 7 ∧ (a = 3 ∨ a = 6))) then a else c := rfl
theorem pass4_one {t : List Int} (h : 0 < t.length) : PassTo f4 g4 none t 1 (some (t.getD 0 0)) t := by
 have := (PassTo.start f4 g4 none t).stay h (some (t.getD 0 0)) f4_first.symm (by rw [g4, f4_first])
 exact this
theorem pass4_stop {t t' : List Int} {k : Nat} {s : Option Int} (h : PassTo f4 g4 none t k s t') (hk : ¬ k + 1 < t.length) : t' = pass f4 g4 none t := by
 by_cases h' : k < t.length
 ·have hd : t.drop (k + 1) = [] := List.drop_eq_nil_of_le (by omega)
  exact (h.stay h' (g4 s (t.getD k 0) (t.drop (k + 1))) (by rw [hd, f4_last]) rfl).stop (by omega)
 ·exact h.stop h'
def weakL (sos : Int) (t : List Int) : List Int :=
 numL 0 0 sos (pass f6 g3 () (pass f5 g5 none (pass f4 g4 none (pass f3 g3 () (numL 2 6 sos (pass (f1 sos) (g1 sos) none t))))))
theorem Ahead.start (t' : List Int) : Ahead t' 0 none := .inl ⟨rfl, rfl⟩
theorem Ahead.set {t' : List Int} {k : Nat} (v : Int) (h : k < t'.length) : Ahead (t'.set k v) (k + 1) (some v) := .inr ⟨by omega, by
 rw [Nat.add_sub_cancel, List.getD_eq_getElem?_getD, List.getElem?_set_self h]; rfl⟩
theorem Ahead.stay {t' : List Int} {k : Nat} : Ahead t' (k + 1) (some (t'.getD k 0)) := .inr ⟨by omega, by rw [Nat.add_sub_cancel]⟩
def fill3 (t : List Int) (k : Nat) : Nat → List Int
 | 0 => t
 | m + 1 => (fill3 t k m).set (k + m) 3
theorem fill3_length (t : List Int) (k : Nat) : ∀ m, (fill3 t k m).length = t.length
 | 0 => rfl
 | m + 1 => by simp [fill3, fill3_length t k m]
theorem etNext_run {td : List Int} {j : Nat} (hj : j ≤ td.length) : ∀ m a, a + m = j → (∀ q, a ≤ q → q < j → td.getD q 0 = 5) → etNext (td.drop a) = etNext (td.drop j)
 | 0, a, h, _ => by rw [← h]; rfl
 | m + 1, a, h, hr => by
  rw [drop_at (show a < td.length by omega), etNext, if_pos (hr a (Nat.le_refl _) (by omega))]
  exact etNext_run hj m (a + 1) (by omega) (fun q h1 h2 => hr q (by omega) h2)
theorem run5_fill {td t' : List Int} {k j : Nat} {s : Option Int} (h : PassTo f5 g5 none td k s t') (hrun : ∀ q, k ≤ q → q < j → td.getD q 0 = 5) (hj : j ≤ td.length) (hc : s = some 3 ∨ etNext (td.drop j) = true) :
  ∀ m, k + m ≤ j → ∃ s', PassTo f5 g5 none td (k + m) s' (fill3 t' k m) ∧ (m = 0 → s' = s) ∧ (0 < m → s' = some 3)
 | 0, _ => ⟨s, h, fun _ => rfl, fun h => by omega⟩
 | m + 1, hm => by
  obtain ⟨s', h1, h2, h3⟩ := run5_fill h hrun hj hc m (by omega)
  have hq : s' = some 3 ∨ etNext (td.drop (k + m + 1)) = true := by
   rcases hc with hc | hc
   ·left
    rcases Nat.eq_zero_or_pos m with h0 | h0
    ·rw [h2 h0, hc]
    ·exact h3 h0
   ·right
    rw [etNext_run hj (j - (k + m + 1)) (k + m + 1) (by omega) (fun q h1 h2 => hrun q (by omega) h2)]; exact hc
  have hf : f5 s' (td.getD (k + m) 0) (td.drop (k + m + 1)) = 3 := by
   unfold f5
   exact if_pos ⟨hrun (k + m) (by omega) (by omega), hq⟩
  exact ⟨some 3, h1.step (by omega) 3 (some 3) hf.symm (by rw [g5, hf]), fun h => by omega, fun _ => rfl⟩
theorem run5_filled {td t' : List Int} {k j : Nat} {s : Option Int} (h : PassTo f5 g5 none td k s t') (hrun : ∀ q, k ≤ q → q < j → td.getD q 0 = 5) (hj : j ≤ td.length) (hkj : k < j) (hc : s = some 3 ∨ etNext (td.drop j) = true) :
  PassTo f5 g5 none td j (some 3) (fill3 t' k (j - k)) ∧ Ahead (fill3 t' k (j - k)) j (some 3) := by
 obtain ⟨s', h1, _, h3⟩ := run5_fill h hrun hj hc (j - k) (by omega)
 rw [h3 (by omega), show k + (j - k) = j by omega] at h1
 refine ⟨h1, ?_⟩
 have hlen := h.length (by omega)
 obtain ⟨m, hm⟩ : ∃ m, j - k = m + 1 := ⟨j - k - 1, by omega⟩
 rw [hm, fill3, show j = k + m + 1 by omega]
 exact Ahead.set 3 (by rw [fill3_length, hlen]; omega)
theorem run5_kept {td t' : List Int} {k j : Nat} {s : Option Int} (h : PassTo f5 g5 none td k s t') (hrun : ∀ q, k ≤ q → q < j → td.getD q 0 = 5) (hj : j ≤ td.length) (hs : ¬ s = some 3) (he : etNext (td.drop j) = false) :
  ∀ m, k + m ≤ j → ∃ s', PassTo f5 g5 none td (k + m) s' t' ∧ (m = 0 → s' = s) ∧ (0 < m → s' = some 5)
 | 0, _ => ⟨s, h, fun _ => rfl, fun h => by omega⟩
 | m + 1, hm => by
  obtain ⟨s', h1, h2, h3⟩ := run5_kept h hrun hj hs he m (by omega)
  have hs' : ¬ s' = some 3 := by
   rcases Nat.eq_zero_or_pos m with h0 | h0
   ·rw [h2 h0]; exact hs
   ·rw [h3 h0]; simp
  have h5 := hrun (k + m) (by omega) (by omega)
  have hf : f5 s' (td.getD (k + m) 0) (td.drop (k + m + 1)) = 5 := by
   unfold f5
   rw [etNext_run hj (j - (k + m + 1)) (k + m + 1) (by omega) (fun q h1 h2 => hrun q (by omega) h2), he, if_neg (by rintro ⟨_, h | h⟩; exact hs' h; cases h)]
   exact h5
  exact ⟨some 5, h1.stay (by omega) (some 5) (by rw [hf]; exact h5) (by rw [g5, hf]), fun h => by omega, fun _ => rfl⟩
theorem run5_keptA {td t' : List Int} {k j : Nat} {s : Option Int} (h : PassTo f5 g5 none td k s t') (hrun : ∀ q, k ≤ q → q < j → td.getD q 0 = 5) (hj : j ≤ td.length) (hkj : k < j) (hs : ¬ s = some 3) (he : etNext (td.drop j) = false) :
  PassTo f5 g5 none td j (some 5) t' ∧ Ahead t' j (some 5) := by
 obtain ⟨s', h1, _, h3⟩ := run5_kept h hrun hj hs he (j - k) (by omega)
 rw [h3 (by omega), show k + (j - k) = j by omega] at h1
 refine ⟨h1, .inr ⟨by omega, ?_⟩⟩
 rw [h.at (j - 1) (by omega), hrun (j - 1) (by omega) (by omega)]
theorem etNext_at {td : List Int} {j : Nat} (hj : j < td.length) (h5 : ¬ td.getD j 0 = 5) : etNext (td.drop j) = (td.getD j 0 == 3) := by rw [drop_at hj, etNext, if_neg h5]
theorem etNext_end {td : List Int} {j : Nat} (hj : ¬ j < td.length) : etNext (td.drop j) = false := by rw [List.drop_eq_nil_of_le (by omega)]; rfl
theorem run5_one {td t' : List Int} {k : Nat} {s : Option Int} (h : PassTo f5 g5 none td k s t') (hk : k < td.length) (h5 : ¬ td.getD k 0 = 5) : PassTo f5 g5 none td (k + 1) (some (td.getD k 0)) t' ∧ Ahead t' (k + 1) (some (td.getD k 0)) := by
 have hf : f5 s (td.getD k 0) (td.drop (k + 1)) = td.getD k 0 := by unfold f5; rw [if_neg (fun h => h5 h.1)]
 refine ⟨h.stay hk _ hf.symm (by rw [g5, hf]), ?_⟩
 rw [← h.at k (Nat.le_refl _)]
 exact Ahead.stay
end Go.Proofs.YtkbinfhclaafhaaGreatDoor
namespace Go.Proofs.YtkbinfhclaafhaaGreatDoor
def shutM (rs : List Int) (r : Int) (st : List Nat) : Nat → Option Nat
 | 0 => none
 | m + 1 => if (brk (rs.getD (st.getD m 0) 0)).2 = r then some m else shutM rs r st m
def pairStep (t rs : List Int) (i : Nat) (x : List Nat × List (Nat × Nat)) : Option (List Nat × List (Nat × Nat)) :=
 if t.getD i 0 = 12 then
  if (brk (rs.getD i 0)).1 = 1 then (if x.1.length = 63 then none else some (x.1 ++ [i], x.2))
  else if (brk (rs.getD i 0)).1 = 2 then (match shutM rs (brk (rs.getD i 0)).2 x.1 x.1.length with
   | some m => some (x.1.take m, x.2 ++ [(x.1.getD m 0, i)])
   | none => some x)
  else some x
 else some x
def pairF (t rs : List Int) : Nat → Nat → List Nat × List (Nat × Nat) → Option (List (Nat × Nat))
 | 0, _, x => some x.2
 |n + 1, i, x => match pairStep t rs i x with
  | some y => pairF t rs n (i + 1) y
  | none => none
def IsPairs (t rs : List Int) (ps : List (Nat × Nat)) : Prop := match pairF t rs t.length 0 ([], []) with
 | none => ps = []
 | some out => ps.Perm out ∧ ps.Pairwise (fun a b => a.1 ≤ b.1)
theorem shutM_lt (rs : List Int) (r : Int) (st : List Nat) : ∀ m k, shutM rs r st m = some k → k < m
 | 0, k, h => by simp [shutM] at h
 | m + 1, k, h => by
  rw [shutM] at h
  split at h
  ·simp at h; omega
  ·have := shutM_lt rs r st m k h; omega
structure PairOk (i : Nat) (x : List Nat × List (Nat × Nat)) : Prop where
 len : x.1.length ≤ 63
 few : x.2.length ≤ i
 st : ∀ a ∈ x.1, a < i
 out : ∀ p ∈ x.2, p.1 < p.2 ∧ p.2 < i
 nod : (x.1 ++ x.2.map Prod.fst).Nodup
theorem PairOk.start : PairOk 0 ([], []) := ⟨by simp, by simp, by simp, by simp, by simp⟩
theorem PairOk.more {i : Nat} {x : List Nat × List (Nat × Nat)} (h : PairOk i x) : PairOk (i + 1) x :=
 ⟨h.len, Nat.le_succ_of_le h.few, fun a ha => Nat.lt_succ_of_lt (h.st a ha), fun p hp => ⟨(h.out p hp).1, Nat.lt_succ_of_lt (h.out p hp).2⟩, h.nod⟩
theorem PairOk.push {i : Nat} {x : List Nat × List (Nat × Nat)} (h : PairOk i x) (hl : ¬ x.1.length = 63) : PairOk (i + 1) (x.1 ++ [i], x.2) := by
 obtain ⟨h1, h2, h3, h4, h5⟩ := h
 refine ⟨by simp; omega, by simp; omega, ?_, fun p hp => ⟨(h4 p hp).1, Nat.lt_succ_of_lt (h4 p hp).2⟩, ?_⟩
 ·intro a ha
  simp at ha
  rcases ha with ha | rfl
  ·exact Nat.lt_succ_of_lt (h3 a ha)
  ·exact Nat.lt_succ_self _
 ·show ((x.1 ++ [i]) ++ x.2.map Prod.fst).Nodup
  have hp : ((x.1 ++ [i]) ++ x.2.map Prod.fst).Perm (i :: (x.1 ++ x.2.map Prod.fst)) := by
   rw [List.append_assoc]
   exact List.perm_middle
  rw [hp.nodup_iff, List.nodup_cons]
  refine ⟨?_, h5⟩
  intro hm
  rcases List.mem_append.1 hm with hm | hm
  ·exact Nat.lt_irrefl _ (h3 i hm)
  ·obtain ⟨p, hq, rfl⟩ := List.mem_map.1 hm
   have := h4 p hq
   omega
theorem PairOk.pop {i m : Nat} {x : List Nat × List (Nat × Nat)} (h : PairOk i x) (hm : m < x.1.length) : PairOk (i + 1) (x.1.take m, x.2 ++ [(x.1.getD m 0, i)]) := by
 obtain ⟨h1, h2, h3, h4, h5⟩ := h
 have hget : x.1.getD m 0 = x.1[m] := by simp [List.getD_eq_getElem?_getD, List.getElem?_eq_getElem hm]
 have hmem : x.1.getD m 0 ∈ x.1 := by rw [hget]; exact List.getElem_mem hm
 refine ⟨by simp; omega, by simp; omega, fun a ha => Nat.lt_succ_of_lt (h3 a (List.mem_of_mem_take ha)), ?_, ?_⟩
 ·intro p hp
  simp at hp
  rcases hp with hp | rfl
  ·exact ⟨(h4 p hp).1, Nat.lt_succ_of_lt (h4 p hp).2⟩
  ·exact ⟨by have := h3 _ hmem; simpa [List.getD_eq_getElem?_getD] using this, Nat.lt_succ_self _⟩
 ·have hs : (x.1.take m ++ [x.1.getD m 0]).Sublist x.1 := by
   have : x.1.take m ++ [x.1.getD m 0] = x.1.take (m + 1) := by rw [hget, List.take_succ_eq_append_getElem hm]
   rw [this]
   exact List.take_sublist _ _
  have hn := h5.sublist (hs.append (List.Sublist.refl (x.2.map Prod.fst)))
  refine (List.Perm.nodup_iff ?_).1 hn
  simp only [List.map_append, List.map_cons, List.map_nil]
  rw [List.append_assoc]
  refine (List.Perm.refl _).append ?_
  exact List.perm_append_comm
theorem PairOk.step {t rs : List Int} {i : Nat} {x y : List Nat × List (Nat × Nat)} (h : PairOk i x) (hy : pairStep t rs i x = some y) : PairOk (i + 1) y := by
 unfold pairStep at hy
 split at hy
 ·split at hy
  ·split at hy
   ·cases hy
   ·obtain rfl := Option.some.inj hy
    exact h.push ‹_›
  ·split at hy
   ·split at hy
    ·rename_i m hm
     obtain rfl := Option.some.inj hy
     exact h.pop (shutM_lt _ _ _ _ _ hm)
    ·obtain rfl := Option.some.inj hy
     exact h.more
   ·obtain rfl := Option.some.inj hy
    exact h.more
 ·obtain rfl := Option.some.inj hy
  exact h.more
theorem pairF_ok {t rs : List Int} : ∀ n i x out, PairOk i x → pairF t rs n i x = some out → (∀ p ∈ out, p.1 < p.2 ∧ p.2 < i + n) ∧ (out.map Prod.fst).Nodup
 | 0, i, x, out, h, hf => by
  rw [pairF] at hf
  obtain rfl := Option.some.inj hf
  exact ⟨h.out, (List.nodup_append.1 h.nod).2.1⟩
 | n + 1, i, x, out, h, hf => by
  rw [pairF] at hf
  split at hf
  ·rename_i y hy
   have := pairF_ok n (i + 1) y out (h.step hy) hf
   exact ⟨fun p hp => ⟨(this.1 p hp).1, by have := (this.1 p hp).2; omega⟩, this.2⟩
  ·cases hf
theorem sorted_one : ∀ (a b : List (Nat × Nat)), a.Perm b → (a.map Prod.fst).Nodup → a.Pairwise (fun p q => p.1 ≤ q.1) → b.Pairwise (fun p q => p.1 ≤ q.1) → a = b
 | [], b, h, _, _, _ => h.nil_eq
 | p :: a, [], h, _, _, _ => by simpa using h.length_eq
 | p :: a, q :: b, h, hn, ha, hb => by
  have hpq : p = q := by
   have h1 : p ∈ q :: b := h.subset (by simp)
   have h2 : q ∈ p :: a := h.symm.subset (by simp)
   rcases List.mem_cons.1 h1 with h1 | h1
   ·exact h1
   ·rcases List.mem_cons.1 h2 with h2 | h2
    ·exact h2.symm
    ·have e1 := (List.pairwise_cons.1 hb).1 p h1
     have e2 := (List.pairwise_cons.1 ha).1 q h2
     have e3 : p.1 = q.1 := Nat.le_antisymm e2 e1
     have := (List.nodup_cons.1 hn).1
     exact absurd (List.mem_map.2 ⟨q, h2, e3.symm⟩) this
  subst hpq
  rw [sorted_one a b (List.Perm.cons_inv h) (List.nodup_cons.1 hn).2 (List.pairwise_cons.1 ha).2 (List.pairwise_cons.1 hb).2]
theorem IsPairs.one {t rs : List Int} {ps qs : List (Nat × Nat)} (h : IsPairs t rs ps) (k : IsPairs t rs qs) : ps = qs := by
 unfold IsPairs at h k
 cases hp : pairF t rs t.length 0 ([], []) with
 | none => rw [hp] at h k; simp only at h k; rw [h, k]
 | some out =>
  rw [hp] at h k
  have hn := (pairF_ok _ _ _ _ PairOk.start hp).2
  exact sorted_one ps qs (h.1.trans k.1.symm) ((List.Perm.nodup_iff (h.1.map Prod.fst)).2 hn) h.2 k.2
theorem IsPairs.ok {t rs : List Int} {ps : List (Nat × Nat)} (h : IsPairs t rs ps) : ∀ p ∈ ps, p.1 < p.2 ∧ p.2 < t.length := by
 unfold IsPairs at h
 cases hp : pairF t rs t.length 0 ([], []) with
 | none => rw [hp] at h; simp only at h; rw [h]; simp
 | some out =>
  rw [hp] at h
  intro p hp'
  have := (pairF_ok _ _ _ _ PairOk.start hp).1 p (h.1.subset hp')
  simpa using this
theorem pairF_len {t rs : List Int} : ∀ n i x out, PairOk i x → pairF t rs n i x = some out → out.length ≤ i + n
 | 0, i, x, out, h, hf => by
  rw [pairF] at hf
  obtain rfl := Option.some.inj hf
  exact h.few
 | n + 1, i, x, out, h, hf => by
  rw [pairF] at hf
  split at hf
  ·rename_i y hy
   have := pairF_len n (i + 1) y out (h.step hy) hf
   omega
  ·cases hf
def swp (l : List (Nat × Nat)) (k : Nat) : List (Nat × Nat) := (l.set k (l.getD (k - 1) (0, 0))).set (k - 1) (l.getD k (0, 0))
theorem swp_length (l : List (Nat × Nat)) (k : Nat) : (swp l k).length = l.length := by simp [swp]
theorem swp_at (l : List (Nat × Nat)) (k j : Nat) (hk : 0 < k) (hl : k < l.length) : (swp l k).getD j (0, 0) = if j = k then l.getD (k - 1) (0, 0) else if j = k - 1 then l.getD k (0, 0) else l.getD j (0, 0) := by
 unfold swp
 rw [List.getD_eq_getElem?_getD, List.getElem?_set, List.getElem?_set]
 by_cases h1 : j = k
 ·subst h1
  rw [if_neg (by omega), if_pos rfl, if_pos hl, if_pos rfl]; rfl
 ·rw [if_neg h1]
  by_cases h2 : j = k - 1
  ·subst h2
   rw [if_pos rfl, if_pos (by simp; omega), if_pos rfl]; rfl
  ·rw [if_neg (by omega), if_neg (by omega), if_neg h2, List.getD_eq_getElem?_getD]
theorem swp_perm (l : List (Nat × Nat)) (k : Nat) (hk : 0 < k) (hl : k < l.length) : (swp l k).Perm l := by
 obtain ⟨j, rfl⟩ : ∃ j, k = j + 1 := ⟨k - 1, by omega⟩
 have h1 : l = l.take j ++ (l.getD j (0, 0) :: l.getD (j + 1) (0, 0) :: l.drop (j + 2)) := by
  have a1 : l.drop j = l.getD j (0, 0) :: l.drop (j + 1) := by
   rw [List.drop_eq_getElem_cons (show j < l.length by omega)]; simp [List.getD_eq_getElem?_getD, List.getElem?_eq_getElem (show j < l.length by omega)]
  have a2 : l.drop (j + 1) = l.getD (j + 1) (0, 0) :: l.drop (j + 2) := by
   rw [List.drop_eq_getElem_cons hl]; simp [List.getD_eq_getElem?_getD, List.getElem?_eq_getElem hl]
  rw [← a2, ← a1, List.take_append_drop]
 have hlen : (l.take j).length = j := by simp; omega
 have h2 : swp l (j + 1) = l.take j ++ (l.getD (j + 1) (0, 0) :: l.getD j (0, 0) :: l.drop (j + 2)) := by
  unfold swp
  rw [Nat.add_sub_cancel]
  generalize l.getD j (0, 0) = a at *
  generalize l.getD (j + 1) (0, 0) = b at *
  generalize l.take j = u at *
  generalize l.drop (j + 2) = v at *
  rw [h1, List.set_append_right _ _ (by omega), List.set_append_right _ _ (by omega), hlen]
  simp
 rw [h2]
 conv => rhs; rw [h1]
 exact (List.Perm.refl _).append (List.Perm.swap _ _ _)
def key (l : List (Nat × Nat)) (j : Nat) : Nat := (l.getD j (0, 0)).1
def SortTo (out l : List (Nat × Nat)) (i : Nat) : Prop := l.Perm out ∧ ∀ a b, a < b → b < i → key l a ≤ key l b
def SinkTo (out l : List (Nat × Nat)) (i k : Nat) : Prop := l.Perm out ∧ k ≤ i ∧ (∀ a b, a < b → b ≤ i → a ≠ k → b ≠ k → key l a ≤ key l b) ∧ ∀ b, k < b → b ≤ i → key l k ≤ key l b
theorem SortTo.sink {out l : List (Nat × Nat)} {i : Nat} (h : SortTo out l i) : SinkTo out l i i := ⟨h.1, Nat.le_refl _, fun a b h1 h2 h3 h4 => h.2 a b h1 (by omega), fun b h1 h2 => by omega⟩
theorem SinkTo.swp {out l : List (Nat × Nat)} {i k : Nat} (h : SinkTo out l i k) (hk : 0 < k) (hi : i < l.length) (hlt : key l k < key l (k - 1)) : SinkTo out (swp l k) i (k - 1) := by
 obtain ⟨h1, h2, h3, h4⟩ := h
 have e : ∀ j, key (Go.Proofs.YtkbinfhclaafhaaGreatDoor.swp l k) j = if j = k then key l (k - 1) else if j = k - 1 then key l k else key l j := by
  intro j
  unfold key
  rw [swp_at l k j hk (by omega)]
  split
  ·rfl
  ·split <;> rfl
 refine ⟨(swp_perm l k hk (by omega)).trans h1, by omega, ?_, ?_⟩
 ·intro a b ha hb na nb
  rw [e, e, if_neg na, if_neg nb]
  by_cases hak : a = k
  ·rw [if_pos hak]
   rw [if_neg (by omega)]
   exact h3 (k - 1) b (by omega) hb (by omega) (by omega)
  ·rw [if_neg hak]
   by_cases hbk : b = k
   ·rw [if_pos hbk]
    exact h3 a (k - 1) (by omega) (by omega) hak (by omega)
   ·rw [if_neg hbk]
    exact h3 a b ha hb hak hbk
 ·intro b hb hbi
  rw [e, e, if_neg (by omega), if_pos rfl, if_neg (by omega : ¬ b = k - 1)]
  by_cases hbk : b = k
  ·rw [if_pos hbk]; omega
  ·rw [if_neg hbk]
   exact h4 b (by omega) hbi
theorem SinkTo.done {out l : List (Nat × Nat)} {i k : Nat} (h : SinkTo out l i k) (hk : k = 0 ∨ ¬ key l k < key l (k - 1)) : SortTo out l (i + 1) := by
 obtain ⟨h1, h2, h3, h4⟩ := h
 refine ⟨h1, fun a b ha hb => ?_⟩
 by_cases hbk : b = k
 ·subst hbk
  rcases hk with hk | hk
  ·omega
  ·by_cases hak : a = b - 1
   ·subst hak; omega
   ·have := h3 a (b - 1) (by omega) (by omega) (by omega) (by omega)
    omega
 ·by_cases hak : a = k
  ·subst hak; exact h4 b ha (by omega)
  ·exact h3 a b ha (by omega) hak hbk
theorem SortTo.done {out l : List (Nat × Nat)} {i : Nat} (h : SortTo out l i) (hi : l.length ≤ i) : l.Perm out ∧ l.Pairwise (fun a b => a.1 ≤ b.1) := by
 refine ⟨h.1, ?_⟩
 rw [List.pairwise_iff_getElem]
 intro a b ha hb hab
 have := h.2 a b hab (by omega)
 simpa [key, List.getD_eq_getElem?_getD, List.getElem?_eq_getElem ha, List.getElem?_eq_getElem hb] using this
end Go.Proofs.YtkbinfhclaafhaaGreatDoor
namespace Go.Proofs.YtkbinfhclaafhaaGreatDoor
def fillV (t : List Int) (k : Nat) (v : Int) : Nat → List Int
 | 0 => t
 | m + 1 => (fillV t k v m).set (k + m) v
theorem fillV_length (t : List Int) (k : Nat) (v : Int) : ∀ m, (fillV t k v m).length = t.length
 | 0 => rfl
 | m + 1 => by simp [fillV, fillV_length t k v m]
theorem fillV_at (t : List Int) (k : Nat) (v : Int) (j : Nat) : ∀ m, k + m ≤ t.length → (fillV t k v m).getD j 0 = if k ≤ j ∧ j < k + m then v else t.getD j 0
 | 0, _ => by rw [fillV, if_neg (by omega)]
 | m + 1, h => by
  rw [fillV, List.getD_eq_getElem?_getD, List.getElem?_set]
  by_cases hj : k + m = j
  ·rw [if_pos hj, if_pos (by rw [fillV_length]; omega), if_pos (by omega)]; rfl
  ·rw [if_neg hj, ← List.getD_eq_getElem?_getD, fillV_at t k v j m (by omega)]
   by_cases hj' : k ≤ j ∧ j < k + m
   ·rw [if_pos hj', if_pos (by omega)]
   ·rw [if_neg hj', if_neg (by omega)]
def nxtS (eos : Int) : List Int → Int
 | [] => eos
 | c :: r => if strongS c < 0 then nxtS eos r else strongS c
def fN (eos e : Int) (s c : Int) (r : List Int) : Int := if strongS c < 0 then (if s = nxtS eos r then s else e) else c
def gN (s c : Int) (_ : List Int) : Int := if strongS c < 0 then s else strongS c
def neutL (sos eos e : Int) (t : List Int) : List Int := pass (fN eos e) gN sos t
theorem nxtS_run {eos : Int} {td : List Int} {j : Nat} (hj : j ≤ td.length) : ∀ m a, a + m = j → (∀ q, a ≤ q → q < j → strongS (td.getD q 0) < 0) → nxtS eos (td.drop a) = nxtS eos (td.drop j)
 | 0, a, h, _ => by rw [← h]; rfl
 | m + 1, a, h, hr => by
  rw [drop_at (show a < td.length by omega), nxtS, if_pos (hr a (Nat.le_refl _) (by omega))]
  exact nxtS_run hj m (a + 1) (by omega) (fun q h1 h2 => hr q (by omega) h2)
theorem runN_fill {eos e sos d : Int} {td t' : List Int} {k j : Nat} {s : Int} (h : PassTo (fN eos e) gN sos td k s t') (hrun : ∀ q, k ≤ q → q < j → strongS (td.getD q 0) < 0) (hj : j ≤ td.length) (hd : d = if s = nxtS eos (td.drop j) then s else e) :
  ∀ m, k + m ≤ j → PassTo (fN eos e) gN sos td (k + m) s (fillV t' k d m)
 | 0, _ => h
 | m + 1, hm => by
  have h1 := runN_fill h hrun hj hd m (by omega)
  have hs := hrun (k + m) (by omega) (by omega)
  refine h1.step (by omega) d s ?_ ?_
  ·rw [fN, if_pos hs, nxtS_run hj (j - (k + m + 1)) (k + m + 1) (by omega) (fun q h1 h2 => hrun q (by omega) h2), hd]
  ·rw [gN, if_pos hs]
theorem runN_one {eos e sos : Int} {td t' : List Int} {k : Nat} {s : Int} (h : PassTo (fN eos e) gN sos td k s t') (hk : k < td.length) (hs : ¬ strongS (td.getD k 0) < 0) : PassTo (fN eos e) gN sos td (k + 1) (strongS (td.getD k 0)) t' :=
 h.stay hk _ (by rw [fN, if_neg hs]) (by rw [gN, if_neg hs])
theorem nxtS_at {eos : Int} {td : List Int} {j : Nat} (hj : j < td.length) (hs : ¬ strongS (td.getD j 0) < 0) : nxtS eos (td.drop j) = strongS (td.getD j 0) := by rw [drop_at hj, nxtS, if_neg hs]
theorem nxtS_end {eos : Int} {td : List Int} {j : Nat} (hj : ¬ j < td.length) : nxtS eos (td.drop j) = eos := by rw [List.drop_eq_nil_of_le (by omega)]; rfl
def AheadN (td t' : List Int) (sos : Int) (k : Nat) (s : Int) : Prop := (k = 0 ∧ s = sos) ∨ (0 < k ∧ s = strongS (t'.getD (k - 1) 0)) ∨ (k < td.length → ¬ strongS (td.getD k 0) < 0)
def anyF (p : Int → Bool) (t : List Int) (a : Nat) : Nat → Bool
 | 0 => false
 | m + 1 => anyF p t a m || p (t.getD (a + m) 0)
def lastF (sos : Int) (t : List Int) : Nat → Int
 | 0 => sos
 | m + 1 => if strongS (t.getD m 0) < 0 then lastF sos t m else strongS (t.getD m 0)
def nsm : List Int → Nat
 | [] => 0
 | c :: r => if c = 8 then nsm r + 1 else 0
def setBr (orig : List Int) (d : Int) (k : Nat) (t : List Int) : List Int := fillV t k d (1 + nsm (orig.drop (k + 1)))
def sameB (e : Int) (c : Int) : Bool := strongS c == e
def otherB (e : Int) (c : Int) : Bool := decide (0 ≤ strongS c) && strongS c != e
def pairD (t : List Int) (p : Nat × Nat) (e sos : Int) : Int := if anyF (sameB e) t (p.1 + 1) (p.2 - (p.1 + 1)) = true then e else lastF sos t p.1
def pairedL (t orig : List Int) (p : Nat × Nat) (e sos : Int) : List Int :=
 if anyF (sameB e) t (p.1 + 1) (p.2 - (p.1 + 1)) = false ∧ anyF (otherB e) t (p.1 + 1) (p.2 - (p.1 + 1)) = false then t
 else setBr orig (pairD t p e sos) p.2 (setBr orig (pairD t p e sos) p.1 t)
theorem nsm_more {l : List Int} {m : Nat} (hm : m < l.length) : nsm (l.drop m) = if l.getD m 0 = 8 then nsm (l.drop (m + 1)) + 1 else 0 := by rw [drop_at hm, nsm]
theorem nsm_end {l : List Int} {m : Nat} (hm : ¬ m < l.length) : nsm (l.drop m) = 0 := by rw [List.drop_eq_nil_of_le (by omega)]; rfl
theorem setBr_length (orig : List Int) (d : Int) (k : Nat) (t : List Int) : (setBr orig d k t).length = t.length := fillV_length _ _ _ _
theorem pairedL_length (t orig : List Int) (p : Nat × Nat) (e sos : Int) : (pairedL t orig p e sos).length = t.length := by
 unfold pairedL; split
 ·rfl
 ·rw [setBr_length, setBr_length]
end Go.Proofs.YtkbinfhclaafhaaGreatDoor
namespace Go.Proofs.YtkbinfhclaafhaaGreatDoor
open Go.RowKit
def opnL : List Int := [40, 91, 123, 12296]
def shtL : List Int := [41, 93, 125, 12297]
def brkF (c : Int) : Nat → Int × Int
 | 0 => (0, 0)
 | m + 1 => if c = opnL.getD (3 - m) 0 then (1, c) else if c = shtL.getD (3 - m) 0 then (2, opnL.getD (3 - m) 0) else brkF c m
theorem brk_brkF (r : Int) : brk r = brkF (canon r) 4 := by
 unfold brk
 generalize canon r = c
 simp only [brkF, opnL, shtL]
 by_cases h1 : c = 40
 ·subst h1; rfl
 by_cases h2 : c = 41
 ·subst h2; rfl
 by_cases h3 : c = 91
 ·subst h3; rfl
 by_cases h4 : c = 93
 ·subst h4; rfl
 by_cases h5 : c = 123
 ·subst h5; rfl
 by_cases h6 : c = 125
 ·subst h6; rfl
 by_cases h7 : c = 12296
 ·subst h7; rfl
 by_cases h8 : c = 12297
 ·subst h8; rfl
 simp [h1, h2, h3, h4, h5, h6, h7, h8]
theorem brkF_at (c : Int) (m : Nat) (hm : m < 4) : brkF c (4 - m) = if c = opnL.getD m 0 then (1, c) else if c = shtL.getD m 0 then (2, opnL.getD m 0) else brkF c (4 - (m + 1)) := by
 rw [show 4 - m = (4 - (m + 1)) + 1 by omega, brkF, show 3 - (4 - (m + 1)) = m by omega]
set_option maxRecDepth 100000 in
set_option maxHeartbeats 4000000 in
theorem bracket_any (r : Int) (w : World) : Calls Tryz.prog 191 #[.int .i64 r] w fun e w' => e = .returned (.tuple #[.int .i64 (brk r).1, .int .i64 (brk r).2]) ∧ Below w.heap.size w w' := by
 have hbrk := brk_brkF r
 generalize brk r = q at *
 have HB : Hid (Below w.heap.size w ((w.alloc (.cells #[.int .i64 40, .int .i64 91, .int .i64 123, .int .i64 12296] 3)).alloc (.cells #[.int .i64 41, .int .i64 93, .int .i64 125, .int .i64 12297] 3))) :=
  ((Below.refl _ _).alloc (Nat.le_refl _) _).alloc (by simp) _
 have hc1 : ∀ m : Nat, m < 4 → ((w.alloc (.cells #[.int .i64 40, .int .i64 91, .int .i64 123, .int .i64 12296] 3)).alloc (.cells #[.int .i64 41, .int .i64 93, .int .i64 125, .int .i64 12297] 3)).cell? ⟨w.heap.size, m, none⟩ = some (.int .i64 (opnL.getD m 0)) := by
  intro m hm
  match m, hm with
  | 0, _ => simp [opnL]
  | 1, _ => simp [opnL]
  | 2, _ => simp [opnL]
  | 3, _ => simp [opnL]
 have hc2 : ∀ m : Nat, m < 4 → ((w.alloc (.cells #[.int .i64 40, .int .i64 91, .int .i64 123, .int .i64 12296] 3)).alloc (.cells #[.int .i64 41, .int .i64 93, .int .i64 125, .int .i64 12297] 3)).cell? ⟨w.heap.size + 1, m, none⟩ = some (.int .i64 (shtL.getD m 0)) := by
  intro m hm
  match m, hm with
  | 0, _ => simp [shtL]
  | 1, _ => simp [shtL]
  | 2, _ => simp [shtL]
  | 3, _ => simp [shtL]
 have H1 : Hid _ := hc1
 have H2 : Hid _ := hc2
 obtain ⟨c, hc⟩ : ∃ c, c = canon r := ⟨_, rfl⟩
 have h3 : (r = 9001 ∧ c = 12296) ∨ (r = 9002 ∧ c = 12297) ∨ ((r == 9001) = false ∧ (r == 9002) = false ∧ c = r) := by
  rw [hc]
  unfold canon
  by_cases h1 : r = 9001
  ·exact .inl ⟨h1, by rw [if_pos h1]⟩
  ·by_cases h2 : r = 9002
   ·exact .inr (.inl ⟨h2, by rw [if_neg h1, if_pos h2]⟩)
   ·exact .inr (.inr ⟨by simpa using h1, by simpa using h2, by rw [if_neg h1, if_neg h2]⟩)
 have HQ : Hid (q = brkF c 4) := by show q = _; rw [hbrk, hc]
 clear hbrk hc hc1 hc2
 rcases h3 with ⟨rfl, rfl⟩ | ⟨rfl, rfl⟩ | ⟨q1, q2, rfl⟩
 all_goals
  go_enter Tryz.func191, Tryz.ntmps191
  go_wp2
  go_loop [6] (fun k => ∃ m : Nat, m ≤ 4 ∧ k = .int .i64 m ∧ q = brkF _ (4 - m)) (fun k => 4 - (intOf k).toNat)
  case atStart => exact ⟨0, by omega, rfl, HQ.out⟩
  case round =>
   obtain ⟨m, hm, rfl, hT⟩ := hrel
   have HT : Hid _ := hT
   clear hT HQ
   by_cases hlt : m < 4
   ·have e1 := H1.out m hlt
    have e2 := H2.out m hlt
    have hT := HT.out
    rw [brkF_at _ m hlt] at hT
    generalize opnL.getD m 0 = o at *
    generalize shtL.getD m 0 = s at *
    split at hT
    ·rename_i h
     have hb : (_ == o) = true := beq_iff_eq.2 h
     have HV : Hid _ := hT
     clear hT h HT
     go_wp2
     exact bodyPost_ret (v := .tuple #[.int .i64 q.1, .int .i64 q.2]) (by rw [HV.out]; simp [results, Tryz.results191, go_sem]) rfl ⟨rfl, HB.out⟩
    ·rename_i h
     split at hT
     ·rename_i h'
      have hb : (_ == o) = false := beq_eq_false_iff_ne.2 h
      have hb' : (_ == s) = true := beq_iff_eq.2 h'
      have HV : Hid _ := hT
      clear hT h h' HT
      go_wp2
      go_region
      go_wp2
      exact bodyPost_ret (v := .tuple #[.int .i64 q.1, .int .i64 q.2]) (by rw [HV.out]; simp [results, Tryz.results191, go_sem]) rfl ⟨rfl, HB.out.drew⟩
     ·rename_i h'
      have hb : (_ == o) = false := beq_eq_false_iff_ne.2 h
      have hb' : (_ == s) = false := beq_eq_false_iff_ne.2 h'
      have HV : Hid _ := hT
      clear hT h h' HT
      go_wp2
      go_round
      case rel => exact ⟨m + 1, by omega, by go_num, HV.out⟩
      case measure => simp [intOf]; omega
   ·have HV : Hid (q = (0, 0)) := by have := HT.out; rw [show 4 - m = 0 by omega] at this; exact this
    go_wp2
    exact bodyPost_ret (v := .tuple #[.int .i64 q.1, .int .i64 q.2]) (by rw [HV.out]; simp [results, Tryz.results191, go_sem]) rfl ⟨rfl, HB.out⟩
end Go.Proofs.YtkbinfhclaafhaaGreatDoor
