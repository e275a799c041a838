import Derived.Test.YtkbinfhclaafhaaGreatDoorM04
namespace Go.Proofs.YtkbinfhclaafhaaGreatDoor
def mStep (cs : List Int) (i : Nat) (x : List Int × List Nat) : List Int × List Nat :=
 if isoB (cs.getD i 0) = true then (x.1.set i (-1), x.2 ++ [i])
 else if cs.getD i 0 = 21 then (match x.2.getLast? with
  | some k => (((x.1.set i (-1)).set k (i : Int)).set i (k : Int), x.2.dropLast)
  | none => (x.1.set i (-1), x.2))
 else (x.1.set i (-1), x.2)
def matchF (cs : List Int) : Nat → List Int × List Nat
 | 0 => (List.replicate cs.length 0, [])
 | i + 1 => mStep cs i (matchF cs i)
def matchL (cs : List Int) : List Int := (matchF cs cs.length).1
structure MOk (cs : List Int) (i : Nat) (x : List Int × List Nat) : Prop where
 le : i ≤ cs.length
 len : x.1.length = cs.length
 opn : ∀ (d k : Nat), x.2[d]? = some k → MtTo cs k i ((x.2.length : Int) - d) ∧ isoB (cs.getD k 0) = true ∧ k < i ∧ x.1.getD k 0 = -1
 iso : ∀ k, k < i → isoB (cs.getD k 0) = true → k ∈ x.2 ∨ (mt cs k < i ∧ x.1.getD k 0 = mt cs k)
 pdi : ∀ k, k < i → cs.getD k 0 = 21 → (x.1.getD k 0 = -1 ∧ ∀ j, j < k → isoB (cs.getD j 0) = true → mt cs j ≠ k) ∨ ∃ j, j < k ∧ isoB (cs.getD j 0) = true ∧ mt cs j = k ∧ x.1.getD k 0 = j
 oth : ∀ k, k < i → isoB (cs.getD k 0) = false → cs.getD k 0 ≠ 21 → x.1.getD k 0 = -1
 nod : x.2.Nodup
theorem MOk.start (cs : List Int) : MOk cs 0 (List.replicate cs.length 0, []) :=
 ⟨Nat.zero_le _, by simp, fun d k h => by simp at h, fun k h => by omega, fun k h => by omega, fun k h => by omega, by simp⟩
theorem getD_set_self {l : List Int} {k : Nat} (h : k < l.length) (v : Int) : (l.set k v).getD k 0 = v := by
 rw [List.getD_eq_getElem?_getD, List.getElem?_set_self h]; rfl
theorem getD_set_ne {l : List Int} {k j : Nat} (h : k ≠ j) (v : Int) : (l.set k v).getD j 0 = l.getD j 0 := by
 rw [List.getD_eq_getElem?_getD, List.getElem?_set_ne h, List.getD_eq_getElem?_getD]
theorem MOk.plain {cs : List Int} {i : Nat} {x : List Int × List Nat} (h : MOk cs i x) (hi : i < cs.length) (h1 : isoB (cs.getD i 0) = false) (h2 : cs.getD i 0 ≠ 21) : MOk cs (i + 1) (x.1.set i (-1), x.2) := by
 refine ⟨hi, by simp [h.len], ?_, ?_, ?_, ?_, h.nod⟩
 ·intro d k hk
  obtain ⟨a, b, c, e⟩ := h.opn d k hk
  refine ⟨?_, b, by omega, by simp only; rw [getD_set_ne (by omega)]; exact e⟩
  have := a.plain hi h2
  rw [h1] at this
  simpa using this
 ·intro k hk hik
  rcases Nat.lt_or_ge k i with hk' | hk'
  ·rcases h.iso k hk' hik with h' | ⟨h', h''⟩
   ·exact .inl h'
   ·exact .inr ⟨by omega, by simp only; rw [getD_set_ne (by omega)]; exact h''⟩
  ·obtain rfl : k = i := by omega
   rw [h1] at hik; cases hik
 ·intro k hk h21
  rcases Nat.lt_or_ge k i with hk' | hk'
  ·simp only; rw [getD_set_ne (by omega)]
   exact h.pdi k hk' h21
  ·obtain rfl : k = i := by omega
   exact absurd h21 h2
 ·intro k hk hik h21
  simp only
  rcases Nat.lt_or_ge k i with hk' | hk'
  ·rw [getD_set_ne (by omega)]; exact h.oth k hk' hik h21
  ·obtain rfl : k = i := by omega
   rw [getD_set_self (by rw [h.len]; exact hi)]
theorem MOk.push {cs : List Int} {i : Nat} {x : List Int × List Nat} (h : MOk cs i x) (hi : i < cs.length) (h1 : isoB (cs.getD i 0) = true) : MOk cs (i + 1) (x.1.set i (-1), x.2 ++ [i]) := by
 have h2 : cs.getD i 0 ≠ 21 := by intro e; rw [e] at h1; cases h1
 refine ⟨hi, by simp [h.len], ?_, ?_, ?_, ?_, ?_⟩
 ·intro d k hk
  simp only at hk
  rcases Nat.lt_or_ge d x.2.length with hd | hd
  ·rw [List.getElem?_append_left hd] at hk
   obtain ⟨a, b, c, e⟩ := h.opn d k hk
   refine ⟨?_, b, by omega, by simp only; rw [getD_set_ne (by omega)]; exact e⟩
   have := a.plain hi h2
   rw [if_pos h1] at this
   simp only [List.length_append, List.length_cons, List.length_nil]
   rw [show (((x.2.length + (0 + 1) : Nat) : Int) - d) = ((x.2.length : Int) - d) + 1 by omega]
   exact this
  ·rw [List.getElem?_append_right hd] at hk
   have hd0 : d - x.2.length = 0 := by
    rcases Nat.eq_zero_or_pos (d - x.2.length) with h' | h'
    ·exact h'
    ·rw [List.getElem?_eq_none (by simp; omega)] at hk; cases hk
   rw [hd0] at hk
   obtain rfl : i = k := by simpa using hk
   refine ⟨?_, h1, by omega, by simp only; rw [getD_set_self (by rw [h.len]; exact hi)]⟩
   have := (MtTo.start cs i (by omega)).plain hi h2
   rw [if_pos h1] at this
   simp only [List.length_append, List.length_cons, List.length_nil]
   rw [show (((x.2.length + (0 + 1) : Nat) : Int) - d) = 0 + 1 by omega]
   exact this
 ·intro k hk hik
  rcases Nat.lt_or_ge k i with hk' | hk'
  ·rcases h.iso k hk' hik with h' | ⟨h', h''⟩
   ·exact .inl (by simp [h'])
   ·exact .inr ⟨by omega, by simp only; rw [getD_set_ne (by omega)]; exact h''⟩
  ·obtain rfl : k = i := by omega
   exact .inl (by simp)
 ·intro k hk h21
  rcases Nat.lt_or_ge k i with hk' | hk'
  ·simp only; rw [getD_set_ne (by omega)]
   exact h.pdi k hk' h21
  ·obtain rfl : k = i := by omega
   exact absurd h21 h2
 ·intro k hk hik h21
  simp only
  rcases Nat.lt_or_ge k i with hk' | hk'
  ·rw [getD_set_ne (by omega)]; exact h.oth k hk' hik h21
  ·obtain rfl : k = i := by omega
   rw [h1] at hik; cases hik
 ·simp only
  rw [List.nodup_append]
  refine ⟨h.nod, by simp, ?_⟩
  intro a ha b hb
  simp at hb
  subst hb
  obtain ⟨d, hd⟩ := List.getElem?_of_mem ha
  have := (h.opn d a hd).2.2.1
  omega
theorem MOk.none {cs : List Int} {i : Nat} {x : List Int × List Nat} (h : MOk cs i x) (hi : i < cs.length) (h2 : cs.getD i 0 = 21) (hx : x.2 = []) : MOk cs (i + 1) (x.1.set i (-1), x.2) := by
 refine ⟨hi, by simp [h.len], ?_, ?_, ?_, ?_, h.nod⟩
 ·intro d k hk
  rw [hx] at hk
  simp at hk
 ·intro k hk hik
  rcases Nat.lt_or_ge k i with hk' | hk'
  ·rcases h.iso k hk' hik with h' | ⟨h', h''⟩
   ·exact .inl h'
   ·exact .inr ⟨by omega, by simp only; rw [getD_set_ne (by omega)]; exact h''⟩
  ·obtain rfl : k = i := by omega
   rw [h2] at hik; cases hik
 ·intro k hk h21
  rcases Nat.lt_or_ge k i with hk' | hk'
  ·simp only; rw [getD_set_ne (by omega)]
   exact h.pdi k hk' h21
  ·obtain rfl : k = i := by omega
   refine .inl ⟨by simp only; rw [getD_set_self (by rw [h.len]; exact hi)], fun j hj hij => ?_⟩
   rcases h.iso j hj hij with h' | ⟨h', _⟩
   ·rw [hx] at h'; cases h'
   ·omega
 ·intro k hk hik h21
  simp only
  rcases Nat.lt_or_ge k i with hk' | hk'
  ·rw [getD_set_ne (by omega)]; exact h.oth k hk' hik h21
  ·obtain rfl : k = i := by omega
   exact absurd h2 h21
theorem MOk.popd {cs : List Int} {i o : Nat} {x : List Int × List Nat} {st : List Nat} (h : MOk cs i x) (hi : i < cs.length) (h2 : cs.getD i 0 = 21) (hx : x.2 = st ++ [o]) : MOk cs (i + 1) (((x.1.set i (-1)).set o (i : Int)).set i (o : Int), st) := by
 have hlen := h.len
 have ho : x.2[st.length]? = some o := by rw [hx]; simp
 obtain ⟨a, b, c, e⟩ := h.opn _ _ ho
 have hmt : mt cs o = i := a.hit hi h2 (by rw [hx]; simp; omega)
 have hnod := h.nod
 rw [hx, List.nodup_append] at hnod
 have hno : o ∉ st := fun hm => hnod.2.2 o hm o (by simp) rfl
 have get : ∀ k, k < i → k ≠ o → (((x.1.set i (-1)).set o (i : Int)).set i (o : Int)).getD k 0 = x.1.getD k 0 := by
  intro k hk hko
  rw [getD_set_ne (by omega), getD_set_ne (by omega), getD_set_ne (by omega)]
 have geto : (((x.1.set i (-1)).set o (i : Int)).set i (o : Int)).getD o 0 = i := by
  rw [getD_set_ne (by omega), getD_set_self (by simp; omega)]
 have geti : (((x.1.set i (-1)).set o (i : Int)).set i (o : Int)).getD i 0 = o := by
  rw [getD_set_self (by simp; omega)]
 refine ⟨hi, by simp [hlen], ?_, ?_, ?_, ?_, hnod.1⟩
 ·intro d k hk
  simp only at hk
  have hd : d < st.length := (List.getElem?_eq_some_iff.1 hk).1
  have hk' : x.2[d]? = some k := by rw [hx, List.getElem?_append_left hd]; exact hk
  obtain ⟨a', b', c', e'⟩ := h.opn d k hk'
  have hkm : k ∈ st := List.mem_of_getElem? hk
  refine ⟨?_, b', by omega, ?_⟩
  ·have := a'.pdi hi h2 (by rw [hx]; simp; omega)
   simp only
   rw [show ((st.length : Int) - d) = ((x.2.length : Int) - d) - 1 by rw [hx]; simp; omega]
   exact this
  ·simp only
   rw [get k c' (by rintro rfl; exact hno hkm)]
   exact e'
 ·intro k hk hik
  rcases Nat.lt_or_ge k i with hk' | hk'
  ·by_cases hko : k = o
   ·subst hko
    exact .inr ⟨by omega, by simp only; rw [geto, hmt]⟩
   ·rcases h.iso k hk' hik with h' | ⟨h', h''⟩
    ·rw [hx] at h'
     refine .inl ?_
     simp at h'
     rcases h' with h' | h'
     ·exact h'
     ·exact absurd h' hko
    ·exact .inr ⟨by omega, by simp only; rw [get k hk' hko]; exact h''⟩
  ·obtain rfl : k = i := by omega
   rw [h2] at hik; cases hik
 ·intro k hk h21
  rcases Nat.lt_or_ge k i with hk' | hk'
  ·have hko : k ≠ o := by rintro rfl; rw [h21] at b; cases b
   simp only
   rw [get k hk' hko]
   exact h.pdi k hk' h21
  ·obtain rfl : k = i := by omega
   exact .inr ⟨o, c, b, hmt, by simp only; rw [geti]⟩
 ·intro k hk hik h21
  rcases Nat.lt_or_ge k i with hk' | hk'
  ·have hko : k ≠ o := by rintro rfl; rw [hik] at b; cases b
   simp only
   rw [get k hk' hko]; exact h.oth k hk' hik h21
  ·obtain rfl : k = i := by omega
   exact absurd h2 h21
theorem matchF_ok (cs : List Int) : ∀ i, i ≤ cs.length → MOk cs i (matchF cs i)
 | 0, _ => MOk.start cs
 | i + 1, hi => by
  have h := matchF_ok cs i (by omega)
  rw [matchF, mStep]
  by_cases h1 : isoB (cs.getD i 0) = true
  ·rw [if_pos h1]; exact h.push (by omega) h1
  ·rw [if_neg h1]
   by_cases h2 : cs.getD i 0 = 21
   ·rw [if_pos h2]
    rcases List.eq_nil_or_concat (matchF cs i).2 with hx | ⟨st, o, hx⟩
    ·have := h.none (by omega) h2 hx
     rw [hx] at this ⊢
     exact this
    ·rw [List.concat_eq_append] at hx
     have := h.popd (by omega) h2 hx
     rw [hx]
     simpa using this
   ·rw [if_neg h2]; exact h.plain (by omega) (by simpa using h1) h2
theorem matchL_length (cs : List Int) : (matchL cs).length = cs.length := (matchF_ok cs _ (Nat.le_refl _)).len
theorem matchL_iso {cs : List Int} {k : Nat} (hk : k < cs.length) (hi : isoB (cs.getD k 0) = true) : (matchL cs).getD k 0 = if mt cs k < cs.length then (mt cs k : Int) else -1 := by
 have h := matchF_ok cs _ (Nat.le_refl _)
 rcases h.iso k hk hi with h' | ⟨h1, h2⟩
 ·obtain ⟨d, hd⟩ := List.getElem?_of_mem h'
  obtain ⟨a, _, _, e⟩ := h.opn d k hd
  rw [if_neg (by rw [a.stop (by omega)]; omega)]
  exact e
 ·rw [if_pos h1]; exact h2
theorem openerF_iff (cs : List Int) (i : Nat) : ∀ n, n ≤ i → (0 ≤ openerF cs i n ↔ ∃ j, i - n ≤ j ∧ j < i ∧ isoB (cs.getD j 0) = true ∧ mt cs j = i)
 | 0, _ => by
  rw [openerF]
  constructor
  ·intro h; omega
  ·rintro ⟨j, h1, h2, _⟩; omega
 | n + 1, hn => by
  rw [openerF]
  have ih := openerF_iff cs i n (by omega)
  by_cases h : isoB (cs.getD (i - (n + 1)) 0) = true ∧ mt cs (i - (n + 1)) = i
  ·rw [if_pos h]
   constructor
   ·intro _; exact ⟨i - (n + 1), Nat.le_refl _, by omega, h.1, h.2⟩
   ·intro _; omega
  ·rw [if_neg h, ih]
   constructor
   ·rintro ⟨j, h1, h2⟩; exact ⟨j, by omega, h2⟩
   ·rintro ⟨j, h1, h2, h3, h4⟩
    rcases Nat.eq_or_lt_of_le h1 with h' | h'
    ·subst h'; exact absurd ⟨h3, h4⟩ h
    ·exact ⟨j, by omega, h2, h3, h4⟩
theorem opener_iff (cs : List Int) (i : Nat) : 0 ≤ opener cs i ↔ ∃ j, j < i ∧ isoB (cs.getD j 0) = true ∧ mt cs j = i := by
 unfold opener
 rw [openerF_iff cs i i (Nat.le_refl _)]
 constructor
 ·rintro ⟨j, _, h⟩; exact ⟨j, h⟩
 ·rintro ⟨j, h⟩; exact ⟨j, by omega, h⟩
theorem matchL_pdi {cs : List Int} {k : Nat} (hk : k < cs.length) (hp : cs.getD k 0 = 21) : ((matchL cs).getD k 0 ≠ -1 ↔ 0 ≤ opener cs k) := by
 rw [opener_iff]
 have h := matchF_ok cs _ (Nat.le_refl _)
 rcases h.pdi k hk hp with ⟨h1, h2⟩ | ⟨j, h1, h2, h3, h4⟩
 ·constructor
  ·intro h'; exact absurd h1 h'
  ·rintro ⟨j, a, b, c⟩; exact absurd c (h2 j a b)
 ·constructor
  ·intro _; exact ⟨j, h1, h2, h3⟩
  ·intro _ h'
   have : (matchL cs).getD k 0 = j := h4
   omega
end Go.Proofs.YtkbinfhclaafhaaGreatDoor
namespace Go.Proofs.YtkbinfhclaafhaaGreatDoor
def pfF (cs : List Int) (to' : Nat) : Nat → Nat → Int
 | 0, _ => 0
 | f + 1, i => if i < to' then (if cs.getD i 0 = 0 then 0 else if cs.getD i 0 = 1 ∨ cs.getD i 0 = 2 then 1 else if isoB (cs.getD i 0) = true then pfF cs to' f (mt cs i + 1) else pfF cs to' f (i + 1)) else 0
theorem pfF_found (cs : List Int) : ∀ f i, pfF cs cs.length f i = foundF cs f i
 | 0, i => rfl
 | f + 1, i => by rw [pfF, foundF, pfF_found cs f, pfF_found cs f]
theorem mtL_less : ∀ (l : List Int) (n a : Int) (d : Nat), 1 ≤ n → 1 ≤ a → mtL l (n + a) = some d → ∃ d', d' < d ∧ mtL l n = some d'
 | [], n, a, d, _, _, h => by cases h
 | c :: r, n, a, d, hn, ha, h => by
  rw [mtL] at h
  rw [mtL]
  by_cases hc : c = 21
  ·rw [if_pos hc] at h ⊢
   rw [if_neg (by omega)] at h
   cases hr : mtL r (n + a - 1) with
   | none => rw [hr] at h; cases h
   | some d1 =>
    rw [hr] at h
    obtain rfl := Option.some.inj h
    by_cases h1 : n - 1 = 0
    ·rw [if_pos h1]; exact ⟨0, by simp, rfl⟩
    ·rw [if_neg h1]
     obtain ⟨d', h2, h3⟩ := mtL_less r (n - 1) a d1 (by omega) ha (by rw [show n - 1 + a = n + a - 1 by omega]; exact hr)
     rw [h3]
     exact ⟨d' + 1, by simp; omega, rfl⟩
  ·rw [if_neg hc] at h ⊢
   cases hi : isoB c with
   | true =>
    rw [hi, if_pos rfl] at h
    rw [if_pos rfl]
    cases hr : mtL r (n + a + 1) with
    | none => rw [hr] at h; cases h
    | some d1 =>
     rw [hr] at h
     obtain rfl := Option.some.inj h
     obtain ⟨d', h2, h3⟩ := mtL_less r (n + 1) a d1 (by omega) ha (by rw [show n + 1 + a = n + a + 1 by omega]; exact hr)
     rw [h3]
     exact ⟨d' + 1, by simp; omega, rfl⟩
   | false =>
    rw [hi, if_neg (by decide)] at h
    rw [if_neg (by decide)]
    cases hr : mtL r (n + a) with
    | none => rw [hr] at h; cases h
    | some d1 =>
     rw [hr] at h
     obtain rfl := Option.some.inj h
     obtain ⟨d', h2, h3⟩ := mtL_less r n a d1 hn ha hr
     rw [h3]
     exact ⟨d' + 1, by simp; omega, rfl⟩
theorem mtL_take : ∀ (l : List Int) (n : Int) (d q : Nat), mtL l n = some d → d < q → mtL (l.take q) n = some d
 | [], n, d, q, h, _ => by cases h
 | c :: r, n, d, 0, _, hq => by omega
 | c :: r, n, d, q + 1, h, hq => by
  rw [List.take_succ_cons]
  rw [mtL] at h ⊢
  by_cases hc : c = 21
  ·rw [if_pos hc] at h ⊢
   by_cases h1 : n - 1 = 0
   ·rw [if_pos h1] at h ⊢; exact h
   ·rw [if_neg h1] at h ⊢
    cases hr : mtL r (n - 1) with
    | none => rw [hr] at h; cases h
    | some d1 =>
     rw [hr] at h
     obtain rfl := Option.some.inj h
     rw [mtL_take r (n - 1) d1 q hr (by simp at hq; omega)]
     rfl
  ·rw [if_neg hc] at h ⊢
   cases hr : mtL r (if isoB c = true then n + 1 else n) with
   | none => rw [hr] at h; cases h
   | some d1 =>
    rw [hr] at h
    obtain rfl := Option.some.inj h
    rw [mtL_take r _ d1 q hr (by simp at hq; omega)]
    rfl
theorem depth_in {cs : List Int} {i m : Nat} (hi : i < cs.length) (hiso : isoB (cs.getD i 0) = true) (hm : mtL (cs.drop i) 0 = some (m - i)) (him : i < m) : ∀ j, i + 1 + j ≤ m → ∃ n : Int, 1 ≤ n ∧ mtL (cs.drop (i + 1 + j)) n = some (m - (i + 1 + j))
 | 0, h => by
  have h21 : ¬ cs.getD i 0 = 21 := by intro e; rw [e] at hiso; cases hiso
  rw [drop_at hi, mtL, if_neg h21, if_pos hiso] at hm
  cases hr : mtL (cs.drop (i + 1)) (0 + 1) with
  | none => rw [hr] at hm; cases hm
  | some d =>
   rw [hr] at hm
   have := Option.some.inj hm
   simp at this
   refine ⟨0 + 1, by omega, ?_⟩
   rw [show i + 1 + 0 = i + 1 by omega, hr]
   congr 1
   omega
 | j + 1, h => by
  obtain ⟨n, hn, h1⟩ := depth_in hi hiso hm him j (by omega)
  have hk : i + 1 + j < cs.length := by
   rcases Nat.lt_or_ge (i + 1 + j) cs.length with h' | h'
   ·exact h'
   ·rw [List.drop_eq_nil_of_le h'] at h1; cases h1
  rw [drop_at hk, mtL] at h1
  by_cases hc : cs.getD (i + 1 + j) 0 = 21
  ·rw [if_pos hc] at h1
   by_cases h0 : n - 1 = 0
   ·rw [if_pos h0] at h1
    have := Option.some.inj h1
    omega
   ·rw [if_neg h0] at h1
    cases hr : mtL (cs.drop (i + 1 + j + 1)) (n - 1) with
    | none => rw [hr] at h1; cases h1
    | some d =>
     rw [hr] at h1
     have := Option.some.inj h1
     simp at this
     refine ⟨n - 1, by omega, ?_⟩
     rw [show i + 1 + (j + 1) = i + 1 + j + 1 by omega, hr]
     congr 1
     omega
  ·rw [if_neg hc] at h1
   cases hr : mtL (cs.drop (i + 1 + j + 1)) (if isoB (cs.getD (i + 1 + j) 0) = true then n + 1 else n) with
   | none => rw [hr] at h1; cases h1
   | some d =>
    rw [hr] at h1
    have := Option.some.inj h1
    simp at this
    refine ⟨if isoB (cs.getD (i + 1 + j) 0) = true then n + 1 else n, ?_, ?_⟩
    ·split <;> omega
    ·rw [show i + 1 + (j + 1) = i + 1 + j + 1 by omega, hr]
     congr 1
     omega
theorem mt_nested {cs : List Int} {i k : Nat} (hi : i < cs.length) (hiso : isoB (cs.getD i 0) = true) (hm : mt cs i < cs.length) (h1 : i < k) (h2 : k < mt cs i) (hk : isoB (cs.getD k 0) = true) : ∃ d, mtL (cs.drop k) 0 = some d ∧ k + d < mt cs i := by
 have hgt : i < mt cs i := by omega
 have hd : mtL (cs.drop i) 0 = some (mt cs i - i) := by
  unfold mt at hm ⊢
  cases hd : mtL (cs.drop i) 0 with
  | none => rw [hd] at hm; simp at hm
  | some d => simp
 obtain ⟨n, hn, hj⟩ := depth_in hi hiso hd hgt (k - (i + 1)) (by omega)
 rw [show i + 1 + (k - (i + 1)) = k by omega] at hj
 have hkl : k < cs.length := by omega
 have h21 : ¬ cs.getD k 0 = 21 := by intro e; rw [e] at hk; cases hk
 rw [drop_at hkl, mtL, if_neg h21, if_pos hk] at hj
 rw [drop_at hkl, mtL, if_neg h21, if_pos hk]
 cases hr : mtL (cs.drop (k + 1)) (n + 1) with
 | none => rw [hr] at hj; cases hj
 | some d1 =>
  rw [hr] at hj
  have e1 := Option.some.inj hj
  simp at e1
  obtain ⟨d', h3, h4⟩ := mtL_less (cs.drop (k + 1)) 1 n d1 (by omega) hn (by rw [show 1 + n = n + 1 by omega]; exact hr)
  refine ⟨d' + 1, by rw [show (0 : Int) + 1 = 1 by omega, h4]; rfl, by omega⟩
theorem mt_sub {cs : List Int} {i k : Nat} (hi : i < cs.length) (hiso : isoB (cs.getD i 0) = true) (h1 : i < k) (h2 : k < mt cs i) (hk : isoB (cs.getD k 0) = true) : mt ((cs.take (mt cs i)).drop (i + 1)) (k - (i + 1)) + (i + 1) = mt cs k := by
 have hle := mt_le cs i (by omega)
 have hdd : ((cs.take (mt cs i)).drop (i + 1)).drop (k - (i + 1)) = (cs.drop k).take (mt cs i - k) := by
  rw [List.drop_drop, show i + 1 + (k - (i + 1)) = k by omega, List.drop_take]
 rcases Nat.lt_or_ge (mt cs i) cs.length with hm | hm
 ·obtain ⟨d, hd, hlt⟩ := mt_nested hi hiso hm h1 h2 hk
  have e1 : mt cs k = k + d := by unfold mt; rw [hd]
  have e2 : mt ((cs.take (mt cs i)).drop (i + 1)) (k - (i + 1)) = k - (i + 1) + d := by
   have h3 := mtL_take _ _ _ (mt cs i - k) hd (by omega)
   rw [← hdd] at h3
   generalize (cs.take (mt cs i)).drop (i + 1) = u at *
   unfold mt
   rw [h3]
  rw [e1, e2]; omega
 ·have hm' : mt cs i = cs.length := by omega
  have ht : cs.take (mt cs i) = cs := by rw [hm']; exact List.take_length
  rw [ht] at hdd ⊢
  unfold mt
  rw [List.drop_drop, show i + 1 + (k - (i + 1)) = k by omega]
  cases hd : mtL (cs.drop k) 0 with
  | none => simp; omega
  | some d => simp; omega
theorem pfF_sub {cs : List Int} {i : Nat} (hi : i < cs.length) (hiso : isoB (cs.getD i 0) = true) : ∀ f q, pfF cs (mt cs i) f (i + 1 + q) = foundF ((cs.take (mt cs i)).drop (i + 1)) f q
 | 0, q => rfl
 | f + 1, q => by
  have hle := mt_le cs i (by omega)
  have hlen : ((cs.take (mt cs i)).drop (i + 1)).length = mt cs i - (i + 1) := by rw [List.length_drop, List.length_take]; omega
  rw [pfF, foundF, hlen]
  by_cases hq : i + 1 + q < mt cs i
  ·rw [if_pos hq, if_pos (show q < mt cs i - (i + 1) by omega)]
   have hg : ((cs.take (mt cs i)).drop (i + 1)).getD q 0 = cs.getD (i + 1 + q) 0 := by
    rw [List.getD_eq_getElem?_getD, List.getElem?_drop, List.getElem?_take, if_pos hq, List.getD_eq_getElem?_getD]
   rw [hg]
   by_cases hk : isoB (cs.getD (i + 1 + q) 0) = true
   ·have := mt_sub hi hiso (show i < i + 1 + q by omega) hq hk
    rw [show i + 1 + q - (i + 1) = q by omega] at this
    rw [if_pos hk, if_pos hk, ← this, show mt ((cs.take (mt cs i)).drop (i + 1)) q + (i + 1) + 1 = i + 1 + (mt ((cs.take (mt cs i)).drop (i + 1)) q + 1) by omega, pfF_sub hi hiso f]
   ·rw [if_neg hk, if_neg hk, show i + 1 + q + 1 = i + 1 + (q + 1) by omega, pfF_sub hi hiso f]
  ·rw [if_neg hq, if_neg (show ¬ q < mt cs i - (i + 1) by omega)]
theorem fsiOdd_pf {cs : List Int} {i : Nat} (hi : i < cs.length) (hiso : isoB (cs.getD i 0) = true) (f : Nat) (hf : mt cs i - (i + 1) ≤ f) : pfF cs (mt cs i) f (i + 1) = fsiOdd cs i := by
 have := pfF_sub hi hiso f 0
 rw [show i + 1 + 0 = i + 1 by omega] at this
 rw [this]
 unfold fsiOdd found
 have hle := mt_le cs i (by omega)
 have hlen : ((cs.take (mt cs i)).drop (i + 1)).length = mt cs i - (i + 1) := by rw [List.length_drop, List.length_take]; omega
 exact foundF_any _ _ _ _ (by omega) (by omega)
end Go.Proofs.YtkbinfhclaafhaaGreatDoor
namespace Go.Proofs.YtkbinfhclaafhaaGreatDoor
def isL (lf : List Bool) (p : Nat) : Bool := lf.getD p false
structure RunOk (lv : List Int) (lf : List Bool) (i : Nat) (x : List (List Nat) × List Nat) : Prop where
 flat : x.1.flatten ++ x.2 = (List.range i).filter (isL lf)
 ne : ∀ r ∈ x.1, r ≠ []
 lvl : ∀ r ∈ x.1, ∀ p ∈ r, lv.getD p 0 = lv.getD (r.headD 0) 0
 cur : ∀ p ∈ x.2, lv.getD p 0 = lv.getD (x.2.headD 0) 0
theorem RunOk.start (lv : List Int) (lf : List Bool) : RunOk lv lf 0 ([], []) := ⟨rfl, by simp, by simp, by simp⟩
theorem RunOk.step {lv : List Int} {lf : List Bool} {i : Nat} {x : List (List Nat) × List Nat} (h : RunOk lv lf i x) : RunOk lv lf (i + 1) (runStep lv lf i x) := by
 obtain ⟨h1, h2, h3, h4⟩ := h
 unfold runStep
 split
 ·rename_i hl
  refine ⟨?_, h2, h3, h4⟩
  rw [h1, List.range_succ, List.filter_append, List.filter_cons, List.filter_nil, isL, hl]
  simp
 ·rename_i hl
  have hl' : isL lf i = true := by simpa [isL] using hl
  split
  ·rename_i hc
   refine ⟨?_, ?_, ?_, by simp⟩
   ·simp only [List.flatten_append, List.flatten_cons, List.flatten_nil, List.append_nil]
    rw [h1, List.range_succ, List.filter_append, List.filter_cons, List.filter_nil, hl']; rfl
   ·intro r hr
    rcases List.mem_append.1 hr with hr | hr
    ·exact h2 r hr
    ·simp at hr; subst hr; exact hc.1
   ·intro r hr
    rcases List.mem_append.1 hr with hr | hr
    ·exact h3 r hr
    ·simp at hr; subst hr; exact h4
  ·rename_i hc
   refine ⟨?_, h2, h3, ?_⟩
   ·simp only
    rw [← List.append_assoc, h1, List.range_succ, List.filter_append, List.filter_cons, List.filter_nil, hl']; rfl
   ·simp only
    by_cases hx : x.2 = []
    ·rw [hx]; simp
    ·have hh : (x.2 ++ [i]).headD 0 = x.2.headD 0 := by cases hx2 : x.2 with
      | nil => exact absurd hx2 hx
      | cons a l => rfl
     rw [hh]
     intro p hp
     rcases List.mem_append.1 hp with hp | hp
     ·exact h4 p hp
     ·simp at hp; subst hp
      rcases Decidable.em (lv.getD (x.2.headD 0) 0 = lv.getD p 0) with h' | h'
      ·exact h'.symm
      ·exact absurd ⟨hx, h'⟩ hc
theorem runsF_ok {lv : List Int} {lf : List Bool} : ∀ n i x, RunOk lv lf i x → ∃ y, RunOk lv lf (i + n) y ∧ runsF lv lf n i x = runEnd y
 | 0, i, x, h => ⟨x, h, rfl⟩
 | n + 1, i, x, h => by
  obtain ⟨y, h1, h2⟩ := runsF_ok n (i + 1) _ h.step
  exact ⟨y, by rw [show i + (n + 1) = i + 1 + n by omega]; exact h1, by rw [runsF]; exact h2⟩
theorem runsL_ok (lv : List Int) (lf : List Bool) : (runsL lv lf).flatten = (List.range lv.length).filter (isL lf) ∧ (∀ r ∈ runsL lv lf, r ≠ []) ∧ ∀ r ∈ runsL lv lf, ∀ p ∈ r, lv.getD p 0 = lv.getD (r.headD 0) 0 := by
 obtain ⟨y, h1, h2⟩ := runsF_ok lv.length 0 ([], []) (RunOk.start lv lf)
 unfold runsL
 rw [h2]
 unfold runEnd
 rw [Nat.zero_add] at h1
 split
 ·rename_i hy
  refine ⟨?_, h1.ne, h1.lvl⟩
  have := h1.flat
  rw [hy, List.append_nil] at this
  exact this
 ·rename_i hy
  refine ⟨?_, ?_, ?_⟩
  ·rw [← h1.flat]; simp
  ·intro r hr
   rcases List.mem_append.1 hr with hr | hr
   ·exact h1.ne r hr
   ·simp at hr; subst hr; exact hy
  ·intro r hr
   rcases List.mem_append.1 hr with hr | hr
   ·exact h1.lvl r hr
   ·simp at hr; subst hr; exact h1.cur
theorem runs_nodup (lv : List Int) (lf : List Bool) : (runsL lv lf).flatten.Nodup := by
 rw [(runsL_ok lv lf).1]
 exact List.Pairwise.filter _ List.nodup_range
theorem run_lt {lv : List Int} {lf : List Bool} {r : List Nat} {p : Nat} (hr : r ∈ runsL lv lf) (hp : p ∈ r) : p < lv.length ∧ isL lf p = true := by
 have : p ∈ (runsL lv lf).flatten := List.mem_flatten.2 ⟨r, hr, hp⟩
 rw [(runsL_ok lv lf).1, List.mem_filter, List.mem_range] at this
 exact this
def itr (nx : Nat → Option Nat) : Nat → Nat → Option Nat
 | 0, i => some i
 | a + 1, i => (itr nx a i).bind nx
def orb (nx : Nat → Option Nat) : Nat → Nat → List Nat
 | 0, i => [i]
 |f + 1, i => match nx i with
  | none => [i]
  | some k => i :: orb nx f k
theorem itr_first (nx : Nat → Option Nat) : ∀ a i k, nx i = some k → itr nx (a + 1) i = itr nx a k
 | 0, i, k, h => by simp [itr, h]
 | a + 1, i, k, h => by rw [itr, itr_first nx a i k h, itr]
theorem orb_mem (nx : Nat → Option Nat) : ∀ f i k, k ∈ orb nx f i → ∃ a, itr nx a i = some k
 | 0, i, k, h => by simp [orb] at h; exact ⟨0, by simp [itr, h]⟩
 | f + 1, i, k, h => by
  rw [orb] at h
  split at h
  ·simp at h; exact ⟨0, by simp [itr, h]⟩
  ·rename_i q hq
   rcases List.mem_cons.1 h with h | h
   ·exact ⟨0, by simp [itr, h]⟩
   ·obtain ⟨a, ha⟩ := orb_mem nx f q k h
    exact ⟨a + 1, by rw [itr_first nx a i q hq]; exact ha⟩
section
variable {nx : Nat → Option Nat} (inj : ∀ i j k, nx i = some k → nx j = some k → i = j)
include inj
theorem itr_inj : ∀ a b i j k, itr nx a i = some k → itr nx (a + b) j = some k → itr nx b j = some i
 | 0, b, i, j, k, h1, h2 => by simp [itr] at h1; subst h1; rw [Nat.zero_add] at h2; exact h2
 | a + 1, b, i, j, k, h1, h2 => by
  rw [show a + 1 + b = (a + b) + 1 by omega] at h2
  rw [itr] at h1 h2
  cases h3 : itr nx a i with
  | none => rw [h3] at h1; cases h1
  | some p =>
   cases h4 : itr nx (a + b) j with
   | none => rw [h4] at h2; cases h2
   | some q =>
    rw [h3] at h1; rw [h4] at h2
    have : p = q := inj p q k h1 h2
    subst this
    exact itr_inj a b i j p h3 h4
omit inj in
theorem itr_start {s : Nat} (hs : ∀ i, nx i ≠ some s) (b j : Nat) (h : itr nx b j = some s) : b = 0 ∧ j = s := by
 cases b with
 | zero => simp [itr] at h; exact ⟨rfl, h⟩
 | succ b =>
  rw [itr] at h
  cases h1 : itr nx b j with
  | none => rw [h1] at h; cases h
  | some q => rw [h1] at h; exact absurd h (hs q)
theorem orb_disj {s t k : Nat} (hs : ∀ i, nx i ≠ some s) (ht : ∀ i, nx i ≠ some t) {f g : Nat} (h1 : k ∈ orb nx f s) (h2 : k ∈ orb nx g t) : s = t := by
 obtain ⟨a, ha⟩ := orb_mem nx f s k h1
 obtain ⟨b, hb⟩ := orb_mem nx g t k h2
 rcases Nat.le_total a b with h | h
 ·have := itr_inj inj a (b - a) s t k ha (by rw [show a + (b - a) = b by omega]; exact hb)
  exact (itr_start hs _ _ this).2.symm
 ·have := itr_inj inj b (a - b) t s k hb (by rw [show b + (a - b) = a by omega]; exact ha)
  exact (itr_start ht _ _ this).2
theorem orb_nodup {s : Nat} (hs : ∀ i, nx i ≠ some s) : ∀ f i c, itr nx c s = some i → (orb nx f i).Nodup
 | 0, i, c, h => by simp [orb]
 | f + 1, i, c, h => by
  rw [orb]
  split
  ·simp
  ·rename_i q hq
   rw [List.nodup_cons]
   refine ⟨?_, orb_nodup hs f q (c + 1) (by rw [itr, h]; exact hq)⟩
   intro hm
   obtain ⟨a, ha⟩ := orb_mem nx f q i hm
   have h2 : itr nx (c + (a + 1)) s = some i := by
    have : ∀ a i q, itr nx c s = some i → nx i = some q → itr nx (c + (a + 1)) s = itr nx a q := by
     intro a
     induction a with
     | zero => intro i q h hq; show (itr nx c s).bind nx = some q; rw [h]; exact hq
     | succ a ih => intro i q h hq; rw [show c + (a + 1 + 1) = (c + (a + 1)) + 1 by omega, itr, ih i q h hq]; rfl
    rw [this a i q h hq]; exact ha
   have := itr_inj inj c (a + 1) s s i h h2
   have := (itr_start hs _ _ this).1
   omega
theorem orbs_nodup (f : Nat) : ∀ (l : List Nat), l.Nodup → (∀ s ∈ l, ∀ i, nx i ≠ some s) → (l.flatMap (orb nx f)).Nodup
 | [], _, _ => by simp
 | s :: l, hn, hs => by
  rw [List.flatMap_cons, List.nodup_append]
  refine ⟨orb_nodup inj (hs s (by simp)) f s 0 rfl, orbs_nodup f l (List.nodup_cons.1 hn).2 (fun t ht => hs t (by simp [ht])), ?_⟩
  intro a ha b hb hab
  subst hab
  obtain ⟨t, ht, hb⟩ := List.mem_flatMap.1 hb
  have := orb_disj inj (hs s (by simp)) (hs t (by simp [ht])) ha hb
  subst this
  exact (List.nodup_cons.1 hn).1 ht
end
end Go.Proofs.YtkbinfhclaafhaaGreatDoor
namespace Go.Proofs.YtkbinfhclaafhaaGreatDoor
open Go.RowKit
theorem Tryz.infoPair : (Tryz.prog.info? 194).map (fun i => (i.zero, i.size, i.bytes)) = some (some (.agg #[.int .i64 0, .int .i64 0]), 2, 16) := by kernel_rfl
theorem brk_kind (r : Int) : (brk r).1 = 0 ∨ (brk r).1 = 1 ∨ (brk r).1 = 2 := by
 unfold brk
 split
 ·exact .inr (.inl rfl)
 ·split
  ·exact .inr (.inr rfl)
  ·split
   ·exact .inr (.inr rfl)
   ·split
    ·exact .inr (.inr rfl)
    ·split
     ·exact .inr (.inr rfl)
     ·exact .inl rfl
theorem pairsV_at : ∀ (l : List (Nat × Nat)) (k : Nat), k < l.length → (pairsV l)[k * 2]? = some (.int .i64 ((l.getD k (0, 0)).1 : Nat)) ∧ (pairsV l)[k * 2 + 1]? = some (.int .i64 ((l.getD k (0, 0)).2 : Nat))
 | [], k, h => by simp at h
 | p :: l, 0, _ => by simp [pairsV]
 | p :: l, k + 1, h => by
  have ih := pairsV_at l k (by simpa using h)
  have e : pairsV (p :: l) = [.int .i64 (p.1 : Nat), .int .i64 (p.2 : Nat)] ++ pairsV l := by simp [pairsV]
  rw [e, List.getElem?_append_right (by simp; omega), List.getElem?_append_right (by simp; omega)]
  simp only [List.length_cons, List.length_nil, List.getD_cons_succ]
  rw [show (k + 1) * 2 - (0 + 1 + 1) = k * 2 by omega, show (k + 1) * 2 + 1 - (0 + 1 + 1) = k * 2 + 1 by omega]
  exact ih
theorem pair_cell0 {w : World} {B g cap L : Nat} {l : List (Nat × Nat)} {e : TypeId} (h : w.ownsRow B e 2 (.slice (some ⟨g, 0, none⟩) L cap) L (pairsV l)) (k : Nat) (hk : k < L) : w.cell? ⟨g, k * 2, none⟩ = some (.int .i64 ((l.getD k (0, 0)).1 : Nat)) := by
 have hl : l.length = L := by have := h.1; rw [pairsV_length] at this; omega
 rw [World.ownsRow.cellAt h (k * 2) (by omega)]
 exact (pairsV_at l k (by omega)).1
theorem pair_cell1 {w : World} {B g cap L : Nat} {l : List (Nat × Nat)} {e : TypeId} (h : w.ownsRow B e 2 (.slice (some ⟨g, 0, none⟩) L cap) L (pairsV l)) (k : Nat) (hk : k < L) : w.cell? ⟨g, k * 2 + 1, none⟩ = some (.int .i64 ((l.getD k (0, 0)).2 : Nat)) := by
 have hl : l.length = L := by have := h.1; rw [pairsV_length] at this; omega
 rw [World.ownsRow.cellAt h (k * 2 + 1) (by omega)]
 exact (pairsV_at l k (by omega)).2
theorem pairsV_set : ∀ (l : List (Nat × Nat)) (k : Nat) (p : Nat × Nat), ((pairsV l).set (k * 2) (.int .i64 (p.1 : Nat))).set (k * 2 + 1) (.int .i64 (p.2 : Nat)) = pairsV (l.set k p)
 | [], k, p => by simp [pairsV]
 | a :: l, 0, p => by simp [pairsV]
 | a :: l, k + 1, p => by
  have ih := pairsV_set l k p
  have e : ∀ l : List (Nat × Nat), pairsV (a :: l) = .int .i64 (a.1 : Nat) :: .int .i64 (a.2 : Nat) :: pairsV l := fun l => by simp [pairsV]
  rw [List.set_cons_succ, e, e, ← ih, show (k + 1) * 2 = k * 2 + 1 + 1 by omega]
  simp only [List.set_cons_succ]
theorem pairs_swapped {w0 w : World} {B g cap L : Nat} {l : List (Nat × Nat)} (h : w.ownsRow B 194 2 (.slice (some ⟨g, 0, none⟩) L cap) L (pairsV l)) (hb : Below B w0 w) (hg : B ≤ g) (q a0 a1 b0 b1 : Nat) (o : Obj) (ha : (a0, a1) = l.getD (q + 1) (0, 0)) (hbb : (b0, b1) = l.getD q (0, 0)) :
  Below B w0 (((((w.setCell ⟨g, (q + 1) * 2, none⟩ (.int .i64 (b0 : Nat))).setCell ⟨g, (q + 1) * 2 + 1, none⟩ (.int .i64 (b1 : Nat))).setCell ⟨g, q * 2, none⟩ (.int .i64 (a0 : Nat))).setCell ⟨g, q * 2 + 1, none⟩ (.int .i64 (a1 : Nat))).alloc o) ∧
  (((((w.setCell ⟨g, (q + 1) * 2, none⟩ (.int .i64 (b0 : Nat))).setCell ⟨g, (q + 1) * 2 + 1, none⟩ (.int .i64 (b1 : Nat))).setCell ⟨g, q * 2, none⟩ (.int .i64 (a0 : Nat))).setCell ⟨g, q * 2 + 1, none⟩ (.int .i64 (a1 : Nat))).alloc o).ownsRow B 194 2 (.slice (some ⟨g, 0, none⟩) L cap) L (pairsV (swp l (q + 1))) := by
 have h1 := (World.ownsRow.stored h ((q + 1) * 2) (.int .i64 (b0 : Nat))).1
 have h2 := (World.ownsRow.stored h1 ((q + 1) * 2 + 1) (.int .i64 (b1 : Nat))).1
 have h3 := (World.ownsRow.stored h2 (q * 2) (.int .i64 (a0 : Nat))).1
 have h4 := (World.ownsRow.stored h3 (q * 2 + 1) (.int .i64 (a1 : Nat))).1
 have e : swp l (q + 1) = (l.set (q + 1) (b0, b1)).set q (a0, a1) := by rw [ha, hbb]; rfl
 rw [pairsV_set l (q + 1) (b0, b1), pairsV_set _ q (a0, a1), ← e] at h4
 have hb4 := (((hb.setCell (p := ⟨g, (q + 1) * 2, none⟩) hg (.int .i64 (b0 : Nat))).setCell (p := ⟨g, (q + 1) * 2 + 1, none⟩) hg (.int .i64 (b1 : Nat))).setCell (p := ⟨g, q * 2, none⟩) hg (.int .i64 (a0 : Nat))).setCell (p := ⟨g, q * 2 + 1, none⟩) hg (.int .i64 (a1 : Nat))
 exact ⟨hb4.alloc (Nat.le_of_lt (Nat.lt_of_le_of_lt hg (h4.lt g rfl).2)) o, h4.alloc o⟩
theorem getD_mem0 {l : List Nat} {i : Nat} (h : i < l.length) : l.getD i 0 ∈ l := by
 rw [List.getD_eq_getElem?_getD, List.getElem?_eq_getElem h]; exact List.getElem_mem h
theorem pairF_step {t rs : List Int} {n k : Nat} {x y : List Nat × List (Nat × Nat)} (hk : k < n) (hs : pairStep t rs k x = some y) : pairF t rs (n - k) k x = pairF t rs (n - (k + 1)) (k + 1) y := by
 rw [show n - k = (n - (k + 1)) + 1 by omega, pairF, hs]
theorem pairF_none {t rs : List Int} {n k : Nat} {x : List Nat × List (Nat × Nat)} (hk : k < n) (hs : pairStep t rs k x = none) : pairF t rs (n - k) k x = none := by
 rw [show n - k = (n - (k + 1)) + 1 by omega, pairF, hs]
theorem pairStep_at {t rs : List Int} {k : Nat} {x : List Nat × List (Nat × Nat)} {c bk br : Int} (hc : t.getD k 0 = c) (hb : brk (rs.getD k 0) = (bk, br)) : pairStep t rs k x = if c = 12 then (if bk = 1 then (if x.1.length = 63 then none else some (x.1 ++ [k], x.2)) else if bk = 2 then (match shutM rs br x.1 x.1.length with
   | some m => some (x.1.take m, x.2 ++ [(x.1.getD m 0, k)])
   | none => some x) else some x) else some x := by unfold pairStep; rw [hc, hb]; rfl
set_option maxRecDepth 100000 in
set_option maxHeartbeats 8000000 in
theorem pairs_row (t rs : List Int) (n gt ot ct gr or' cr : Nat) (w : World) (ht : t.length = n) (hr : rs.length = n) (hn : n ≤ 100000) (hti : IntsAt w gt ot t) (hri : IntsAt w gr or' rs) (hgt : gt < w.heap.size) (hgr : gr < w.heap.size) :
  Calls Tryz.prog 125 #[.slice (some ⟨gt, ot, none⟩) n ct, .slice (some ⟨gr, or', none⟩) n cr] w fun ev w' => ∃ (v : Value) (ps : List (Nat × Nat)), ev = .returned v ∧ IsPairs t rs ps ∧ ps.length ≤ n ∧ Below w.heap.size w w' ∧ w'.ownsRow w.heap.size 194 2 v ps.length (pairsV ps) := by
 obtain ⟨iI, hiI, hzI0, hzI1, hzI2⟩ := info_parts Tryz.infoI8
 obtain ⟨iP, hiP, hzP0, hzP1, hzP2⟩ := info_parts Tryz.infoPair
 have HTI : Hid (IntsAt w gt ot t) := hti
 have HRI : Hid (IntsAt w gr or' rs) := hri
 have HLT : Hid (t.length = n) := ht
 have HLR : Hid (rs.length = n) := hr
 have HB : Hid (gt < w.heap.size ∧ gr < w.heap.size) := ⟨hgt, hgr⟩
 obtain ⟨P, hP⟩ : ∃ P, P = pairF t rs n 0 ([], []) := ⟨_, rfl⟩
 have HP : Hid (P = pairF t rs t.length 0 ([], [])) := by rw [ht]; exact hP
 have HP0 : Hid (P = pairF t rs (n - 0) 0 ([], [])) := hP
 clear hti hri ht hr hgt hgr hP
 go_enter Tryz.func125, Tryz.ntmps125
 go_wp2
 go_loopg [5, 6, 7] n (fun gk sv ov iv wr => ∃ (k : Nat) (x : List Nat × List (Nat × Nat)), k ≤ n ∧ gk = n - k ∧ iv = .int .i64 k ∧ PSt w wr w.heap.size sv ov x ∧ PairOk k x ∧ P = pairF t rs (n - k) k x)
 case atStart => exact ⟨0, ([], []), by omega, rfl, rfl, PSt.start w, PairOk.start, HP0.out⟩
 case round =>
  clear HP0
  obtain ⟨k, x, hk, rfl, rfl, hS, hok, hF⟩ := hrel
  obtain ⟨sa, sc, rfl⟩ := own_form hS.st
  obtain ⟨oa, oc, rfl⟩ := own_form hS.out
  have HS : Hid (PSt w wr w.heap.size _ _ x) := hS
  have HOk : Hid (PairOk k x) := hok
  have HF : Hid (P = pairF t rs (n - k) k x) := hF
  have hx1 : x.1.length ≤ 63 := hok.len
  have hx2 : x.2.length ≤ k := hok.few
  clear hS hok hF
  by_cases hlt : k < n
  ·have hcr := HRI.out.stay HS.out.below HB.out.2 k (by rw [HLR.out]; exact hlt)
   generalize hrk : rs.getD k 0 = rk at hcr
   obtain ⟨bk, br, hbrk⟩ : ∃ bk br, brk rk = (bk, br) := ⟨_, _, rfl⟩
   have HBR : Hid (brk rk = (bk, br)) := hbrk
   have HBR2 : Hid (brk (rs.getD k 0) = (bk, br)) := by rw [hrk]; exact hbrk
   have hkind := brk_kind rk
   rw [hbrk] at hkind
   simp only at hkind
   clear hbrk hrk
   go_wp2_with fail
   refine (bracket_any rk _).mono ?_
   rintro ev w1 ⟨rfl, hb1⟩
   rw [HBR.out]
   simp only
   have HS1 : Hid (PSt w w1 w.heap.size _ _ x) := HS.out.call hb1
   have hct := HTI.out.stay HS1.out.below HB.out.1 k (by rw [HLT.out]; exact hlt)
   clear hb1 hcr HS
   generalize hc0 : t.getD k 0 = c at hct
   have hst0 := pairStep_at (x := x) hc0 HBR2.out
   clear hc0 HBR2
   by_cases h12 : c = 12
   ·subst h12
    rw [if_pos rfl] at hst0
    rcases hkind with rfl | rfl | rfl
    ·have HN : Hid (P = pairF t rs (n - (k + 1)) (k + 1) x) := by
      show _ = _
      rw [HF.out]; exact pairF_step hlt (by rw [hst0]; rfl)
     clear hst0
     go_wp2
     go_roundg (n - (k + 1))
     case measure => omega
     case rel => exact ⟨k + 1, x, by omega, rfl, by simp, HS1.out, HOk.out.more, HN.out⟩
    ·rw [if_pos rfl] at hst0
     by_cases h63 : x.1.length = 63
     ·have HN : Hid (P = none) := by
       show _ = _
       rw [HF.out]; exact pairF_none hlt (by rw [hst0, if_pos h63])
      have q63 : ((x.1.length : Int) == 63) = true := by simp; omega
      clear hst0
      go_wp2
      refine bodyPost_ret (v := .slice none 0 0) (by simp [results, Tryz.results125, go_sem]) rfl ⟨.slice none 0 0, [], rfl, ?_, by simp, HS1.out.below, rfl, .inl ⟨rfl, rfl⟩⟩
      unfold IsPairs
      rw [← HP.out, HN.out]
     ·have HN : Hid (P = pairF t rs (n - (k + 1)) (k + 1) (x.1 ++ [k], x.2)) := by
       show _ = _
       rw [HF.out]; exact pairF_step hlt (by rw [hst0, if_neg h63])
      have q63 : ((x.1.length : Int) == 63) = false := by simp; omega
      have HO2 : Hid (PairOk (k + 1) (x.1 ++ [k], x.2)) := HOk.out.push h63
      clear hst0
      have hrow := HS1.out.st
      have hbz := HS1.out.base
      go_wp2_with (at_builtin; refine wpList_push2 _ rfl _ _ 31 rfl w.heap.size 3 iI (.int .i64 0) 8 Tryz.underlying31 hiI hzI0 hzI1 hzI2 rfl (by decide) _ _ _ rfl hrow _ _ rfl rfl (by omega) hbz ?_)
      intro v' w5 hown5 hg5
      have HS5 : Hid (PSt w w5 w.heap.size v' _ (x.1 ++ [k], x.2)) := HS1.out.push hown5 hg5
      clear hown5 hg5 hrow
      go_wp2
      go_roundg (n - (k + 1))
      case measure => omega
      case rel => exact ⟨k + 1, _, by omega, rfl, by simp, HS5.out, HO2.out, HN.out⟩
    ·rw [if_neg (by decide), if_pos rfl] at hst0
     have HST : Hid _ := hst0
     clear hst0
     go_wp2
     go_loopg [5, 6, 10] x.1.length (fun gk sv ov jv wj => ∃ m : Nat, m ≤ x.1.length ∧ m = gk ∧ sv = .slice sa x.1.length sc ∧ ov = .slice oa x.2.length oc ∧ jv = .int .i64 ((m : Int) - 1) ∧ PSt w wj w.heap.size (.slice sa x.1.length sc) (.slice oa x.2.length oc) x ∧ shutM rs br x.1 x.1.length = shutM rs br x.1 m)
     case atStart => exact ⟨x.1.length, Nat.le_refl _, rfl, rfl, rfl, by simp, HS1.out, rfl⟩
     case round =>
      clear HS1 hct
      obtain ⟨m, hm, rfl, rfl, rfl, rfl, hSj, hM⟩ := hrel
      have HSj : Hid (PSt w wr w.heap.size (.slice sa x.1.length sc) (.slice oa x.2.length oc) x) := hSj
      have HM : Hid (shutM rs br x.1 x.1.length = shutM rs br x.1 m) := hM
      clear hSj hM
      cases m with
      | zero =>
       have HN : Hid (P = pairF t rs (n - (k + 1)) (k + 1) x) := by
        show _ = _
        rw [HF.out]
        refine pairF_step hlt ?_
        rw [HST.out, HM.out]; rfl
       go_wp2
       go_roundg (n - (k + 1))
       case measure => omega
       case rel => exact ⟨k + 1, x, by omega, rfl, by simp, HSj.out, HOk.out.more, HN.out⟩
      | succ m =>
       obtain ⟨g, cap, hv, hcap, hgw, _⟩ := own_some HSj.out.st (by omega)
       obtain ⟨hv1, hv2⟩ : sa = some ⟨g, 0, none⟩ ∧ sc = cap := by simpa using hv
       clear hv
       subst hv1
       subst hv2
       have hmx : m < x.1.length := by omega
       have hca := own_icell HSj.out.st m (by rw [nl_length]; exact hmx)
       rw [nl_getD _ _ hmx] at hca
       have hak : x.1.getD m 0 < k := HOk.out.st _ (getD_mem0 hmx)
       have HSM : Hid (shutM rs br x.1 (m + 1) = if (brk (rs.getD (x.1.getD m 0) 0)).2 = br then some m else shutM rs br x.1 m) := rfl
       have HOP : Hid (PairOk (k + 1) (x.1.take m, x.2 ++ [(x.1.getD m 0, k)])) := HOk.out.pop hmx
       have HPR : Hid (∀ (w5 : World) (v' : Value) (w2 : World), PSt w w2 w.heap.size (.slice (some ⟨g, 0, none⟩) x.1.length sc) (.slice oa x.2.length oc) x → w5.ownsRow w.heap.size 194 2 v' (x.2.length + 1) (pairsV x.2 ++ [.int .i64 (x.1.getD m 0 : Nat), .int .i64 (k : Nat)]) → w2.grownBy w5 (Value.slice oa x.2.length oc).ownBlock → PSt w w5 w.heap.size (.slice (some ⟨g, 0, none⟩) m sc) v' (x.1.take m, x.2 ++ [(x.1.getD m 0, k)])) := fun w5 v' w2 h1 h2 h3 => h1.pair hmx h2 h3
       have HSH : Hid (shutM rs br x.1 x.1.length = some m → P = pairF t rs (n - (k + 1)) (k + 1) (x.1.take m, x.2 ++ [(x.1.getD m 0, k)])) := by
        intro hh
        rw [HF.out]
        refine pairF_step hlt ?_
        rw [HST.out, hh]
       generalize x.1.getD m 0 = aa at *
       have hcr2 := HRI.out.stay HSj.out.below HB.out.2 aa (by rw [HLR.out]; omega)
       generalize rs.getD aa 0 = ra at hcr2 HSM
       obtain ⟨b2, o2, hb2⟩ : ∃ b2 o2, brk ra = (b2, o2) := ⟨_, _, rfl⟩
       rw [hb2] at HSM
       have HB2 : Hid (brk ra = (b2, o2)) := hb2
       clear hb2
       rw [show ((m + 1 : Nat) : Int) - 1 = (m : Int) by omega]
       have han : aa < n := by omega
       go_wp2_with fail
       refine (bracket_any ra _).mono ?_
       rintro ev w2 ⟨rfl, hb2⟩
       rw [HB2.out]
       simp only
       have HSk : Hid (PSt w w2 w.heap.size (.slice (some ⟨g, 0, none⟩) x.1.length sc) (.slice oa x.2.length oc) x) := HSj.out.call hb2
       have hca2 : w2.cell? ⟨g, m, none⟩ = some (.int .i64 (aa : Nat)) := by rw [hb2.cell (p := ⟨g, m, none⟩) hgw]; exact hca
       clear hb2 hca hcr2
       by_cases hob : o2 = br
       ·have qob : (o2 == br) = true := by simpa using hob
        have HN : Hid (P = pairF t rs (n - (k + 1)) (k + 1) (x.1.take m, x.2 ++ [(aa, k)])) := HSH.out (by rw [HM.out, HSM.out, if_pos hob])
        clear hob
        have hrow := HSk.out.out
        have hbz := HSk.out.base
        go_wp2_with (at_builtin; refine wpList_pushP _ rfl _ _ 190 rfl w.heap.size 194 iP (.agg #[.int .i64 0, .int .i64 0]) 16 Tryz.underlying190 hiP hzP0 hzP1 hzP2 rfl (by decide) _ _ _ rfl hrow _ _ _ _ rfl (by simp) rfl rfl (by omega) hbz ?_)
        intro v' w5 hown5 hg5
        have HS5 : Hid (PSt w w5 w.heap.size (.slice (some ⟨g, 0, none⟩) m sc) v' (x.1.take m, x.2 ++ [(aa, k)])) := HPR.out w5 v' w2 HSk.out hown5 hg5
        clear hown5 hg5 hrow
        have hcap0 : 0 < sc := by omega
        have hmc : m ≤ sc := by omega
        go_wp2
        go_roundg (n - (k + 1))
        case measure => omega
        case rel => exact ⟨k + 1, _, by omega, rfl, by simp, HS5.out, HOP.out, HN.out⟩
       ·have qob : (o2 == br) = false := by simpa using hob
        have HN : Hid (shutM rs br x.1 x.1.length = shutM rs br x.1 m) := by
         show _ = _
         rw [HM.out, HSM.out, if_neg hob]
        clear hob
        go_wp2
        go_roundg m
        case measure => omega
        case rel => exact ⟨m, by omega, rfl, rfl, rfl, by simp, HSk.out, HN.out⟩
   ·rw [if_neg h12] at hst0
    have q12 : (c == 12) = false := by simpa using h12
    have q12' : (c != 12) = true := by simpa using h12
    have HN : Hid (P = pairF t rs (n - (k + 1)) (k + 1) x) := by
     show _ = _
     rw [HF.out]; exact pairF_step hlt hst0
    clear hst0 h12
    go_wp2
    go_roundg (n - (k + 1))
    case measure => omega
    case rel => exact ⟨k + 1, x, by omega, rfl, by simp, HS1.out, HOk.out.more, HN.out⟩
  ·obtain rfl : k = n := by omega
   have HN : Hid (P = some x.2) := by
    show _ = _
    rw [HF.out, Nat.sub_self]; rfl
   clear hlt
   have HIS : Hid (∀ l : List (Nat × Nat), SortTo x.2 l x.2.length → l.length = x.2.length → IsPairs t rs l) := by
    intro l h1 h2
    unfold IsPairs
    rw [← HP.out, HN.out]
    exact h1.done (by omega)
   obtain ⟨L, hL⟩ : ∃ L, L = x.2.length := ⟨_, rfl⟩
   have HX0 : Hid (wr.ownsRow w.heap.size 194 2 (.slice oa L oc) L (pairsV x.2)) := by rw [hL]; exact HS.out.out
   have HBl : Hid (Below w.heap.size w wr) := HS.out.below
   have HLL : Hid (x.2.length = L) := hL.symm
   have hLk : L ≤ k := by omega
   rw [← hL] at HIS ⊢
   clear hL hx2 HS HF HOk
   go_wp2
   go_loopg [13] (L - 1) (fun gk iv ws => ∃ (i : Nat) (l : List (Nat × Nat)), 1 ≤ i ∧ (i ≤ L ∨ i = 1) ∧ gk = L - i ∧ iv = .int .i64 i ∧ Below w.heap.size w ws ∧ ws.ownsRow w.heap.size 194 2 (.slice oa L oc) L (pairsV l) ∧ SortTo x.2 l i ∧ l.length = L)
   case atStart => exact ⟨1, x.2, by omega, .inr rfl, rfl, rfl, HBl.out, HX0.out, ⟨List.Perm.refl _, fun a b h1 h2 => by omega⟩, HLL.out⟩
   case round =>
    clear HX0 HBl
    obtain ⟨i, l, hi1, hiL, rfl, rfl, hBl, hX, hSo, hlL⟩ := hrel
    have HBl : Hid (Below w.heap.size w wr) := hBl
    have HX : Hid (wr.ownsRow w.heap.size 194 2 (.slice oa L oc) L (pairsV l)) := hX
    have HSo : Hid (SortTo x.2 l i) := hSo
    have HlL : Hid (l.length = L) := hlL
    clear hBl hX hSo hlL
    by_cases hlt : i < L
    ·go_wp2
     go_loopg [14] i (fun gk kv ws => ∃ (p : Nat) (l : List (Nat × Nat)), p ≤ i ∧ p = gk ∧ kv = .int .i64 p ∧ Below w.heap.size w ws ∧ ws.ownsRow w.heap.size 194 2 (.slice oa L oc) L (pairsV l) ∧ SinkTo x.2 l i p ∧ l.length = L)
     case atStart => exact ⟨i, l, by omega, rfl, rfl, HBl.out, HX.out, HSo.out.sink, HlL.out⟩
     case round =>
      clear HBl HX HSo HlL
      obtain ⟨p, l', hp, rfl, rfl, hBl, hX, hSi, hlL⟩ := hrel
      have HBl : Hid (Below w.heap.size w wr) := hBl
      have HX : Hid (wr.ownsRow w.heap.size 194 2 (.slice oa L oc) L (pairsV l')) := hX
      have HSi : Hid (SinkTo x.2 l' i p) := hSi
      have HlL : Hid (l'.length = L) := hlL
      cases p with
      | zero =>
       have HSd : Hid (SortTo x.2 l' (i + 1)) := hSi.done (.inl rfl)
       clear hBl hX hSi hlL
       go_wp2
       go_region
       go_wp2
       go_roundg (L - (i + 1))
       case measure => omega
       case rel => exact ⟨i + 1, l', by omega, .inl (by omega), rfl, by simp, HBl.out.drew, HX.out, HSd.out, HlL.out⟩
      | succ q =>
       obtain ⟨g, cap, hv, hcap, hgw, hgB⟩ := own_some hX (by omega)
       obtain ⟨hv1, hv2⟩ : oa = some ⟨g, 0, none⟩ ∧ oc = cap := by simpa using hv
       clear hv
       subst hv1
       subst hv2
       obtain ⟨⟨a0, a1⟩, hA⟩ : ∃ a : Nat × Nat, a = l'.getD (q + 1) (0, 0) := ⟨_, rfl⟩
       obtain ⟨⟨b0, b1⟩, hBB⟩ : ∃ a : Nat × Nat, a = l'.getD q (0, 0) := ⟨_, rfl⟩
       have cA0 := pair_cell0 hX (q + 1) (by omega)
       have cA1 := pair_cell1 hX (q + 1) (by omega)
       have cB0 := pair_cell0 hX q (by omega)
       have cB1 := pair_cell1 hX q (by omega)
       rw [← hA] at cA0 cA1
       rw [← hBB] at cB0 cB1
       have hkA : key l' (q + 1) = a0 := by unfold key; rw [← hA]
       have hkB : key l' q = b0 := by unfold key; rw [← hBB]
       have fr := fun j => World.ownsRow.frozenAt hX j
       by_cases hab : a0 < b0
       ·have HSw : Hid (SinkTo x.2 (swp l' (q + 1)) i q) := hSi.swp (by omega) (by omega) (by rw [Nat.add_sub_cancel, hkA, hkB]; exact hab)
        have HA : Hid ((a0, a1) = l'.getD (q + 1) (0, 0) ∧ (b0, b1) = l'.getD q (0, 0)) := ⟨hA, hBB⟩
        clear hBl hX hSi hlL hA hBB hkA hkB
        go_wp2
        go_region
        go_wp2
        go_roundg q
        case measure => omega
        case rel =>
         obtain ⟨h1, h2⟩ := HA.out
         have hsw := pairs_swapped HX.out HBl.out hgB q a0 a1 b0 b1 (.cells #[.int .i64 a0, .int .i64 a1] 194) h1 h2
         exact ⟨q, swp l' (q + 1), by omega, rfl, by simp, hsw.1.drew, hsw.2, HSw.out, by rw [swp_length]; exact HlL.out⟩
       ·have HSd : Hid (SortTo x.2 l' (i + 1)) := hSi.done (.inr (by rw [Nat.add_sub_cancel, hkA, hkB]; exact hab))
        clear hBl hX hSi hlL hA hBB hkA hkB
        go_wp2
        go_region
        go_wp2
        go_roundg (L - (i + 1))
        case measure => omega
        case rel => exact ⟨i + 1, l', by omega, .inl (by omega), rfl, by simp, HBl.out.drew, HX.out, HSd.out, HlL.out⟩
    ·have HV : Hid (SortTo x.2 l L) := ⟨HSo.out.1, fun a b h1 h2 => HSo.out.2 a b h1 (by omega)⟩
     go_wp2
     refine bodyPost_ret (v := .slice oa L oc) (by simp [results, Tryz.results125, go_sem]) rfl ⟨_, l, rfl, HIS.out l HV.out HlL.out, by rw [HlL.out]; exact hLk, HBl.out, ?_⟩
     rw [HlL.out]
     exact HX.out
end Go.Proofs.YtkbinfhclaafhaaGreatDoor
