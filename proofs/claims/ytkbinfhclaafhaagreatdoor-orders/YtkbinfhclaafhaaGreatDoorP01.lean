import Derived.Test.YtkbinfhclaafhaaGreatDoorM07
import Derived.Test.YtkbinfhclaafhaaGreatDoorM04
import Derived.Test.YtkbinfhclaafhaaGreatDoorM12
import Derived.Test.YtkbinfhclaafhaaGreatDoorM18
namespace Go.Proofs.YtkbinfhclaafhaaGreatDoor
section
variable {α β : Type}
def turnL : List Bool → List α → List α → List α
 | [], _, acc => acc
 | _ :: _, [], acc => acc
 | true :: bs, x :: xs, acc => turnL bs xs (x :: acc)
 | false :: bs, x :: xs, acc => acc ++ x :: turnL bs xs []
theorem turnL_length : ∀ (bs : List Bool) (xs acc : List α), bs.length = xs.length → (turnL bs xs acc).length = acc.length + xs.length
 | [], [], acc, _ => rfl
 | [], _ :: _, _, h => by simp at h
 | _ :: _, [], _, h => by simp at h
 | true :: bs, x :: xs, acc, h => by
  rw [turnL, turnL_length bs xs _ (by simpa using h)]; simp; omega
 | false :: bs, x :: xs, acc, h => by
  rw [turnL, List.length_append, List.length_cons, turnL_length bs xs _ (by simpa using h)]; simp
theorem turnL_perm : ∀ (bs : List Bool) (xs acc : List α), bs.length = xs.length → (turnL bs xs acc).Perm (acc ++ xs)
 | [], [], acc, _ => by rw [turnL, List.append_nil]
 | [], _ :: _, _, h => by simp at h
 | _ :: _, [], _, h => by simp at h
 | true :: bs, x :: xs, acc, h => by
  rw [turnL]
  refine (turnL_perm bs xs _ (by simpa using h)).trans ?_
  exact (List.perm_middle (l₁ := acc) (a := x) (l₂ := xs)).symm
 | false :: bs, x :: xs, acc, h => by
  rw [turnL]
  exact (((turnL_perm bs xs [] (by simpa using h)).cons x)).append_left acc
theorem turnL_map (f : α → β) : ∀ (bs : List Bool) (xs acc : List α), (turnL bs xs acc).map f = turnL bs (xs.map f) (acc.map f)
 | [], _, acc => rfl
 | _ :: _, [], acc => rfl
 | true :: bs, x :: xs, acc => by rw [turnL, List.map_cons, turnL, turnL_map f bs xs]; rfl
 | false :: bs, x :: xs, acc => by rw [turnL, List.map_cons, turnL, List.map_append, List.map_cons, turnL_map f bs xs]; rfl
theorem turnL_trues (bs : List Bool) (xs : List α) : ∀ (ys acc : List α), turnL (List.replicate ys.length true ++ bs) (ys ++ xs) acc = turnL bs xs (ys.reverse ++ acc)
 | [], acc => by simp
 | y :: ys, acc => by
  rw [List.length_cons, List.replicate_succ, List.cons_append, List.cons_append, turnL, turnL_trues bs xs ys]
  simp
theorem turnL_acc : ∀ (bs : List Bool) (xs acc : List α), (bs = [] ∧ xs = []) ∨ (∃ bs', bs = false :: bs') → turnL bs xs acc = acc ++ turnL bs xs []
 | _, _, acc, .inl ⟨h1, h2⟩ => by subst h1; subst h2; simp [turnL]
 | _, [], acc, .inr ⟨bs', h⟩ => by subst h; simp [turnL]
 | _, x :: xs, acc, .inr ⟨bs', h⟩ => by subst h; simp [turnL]
theorem turnL_twice : ∀ (bs : List Bool) (xs acc : List α), bs.length = xs.length → turnL (List.replicate acc.length true ++ bs) (turnL bs xs acc) [] = acc.reverse ++ xs
 | [], [], acc, _ => by
  have := turnL_trues [] [] acc []
  simp only [List.append_nil] at this ⊢
  rw [turnL, this]
  simp [turnL]
 | [], _ :: _, _, h => by simp at h
 | _ :: _, [], _, h => by simp at h
 | true :: bs, x :: xs, acc, h => by
  have ih := turnL_twice bs xs (x :: acc) (by simpa using h)
  rw [turnL]
  rw [List.length_cons, List.replicate_succ', List.append_assoc] at ih
  simpa using ih
 | false :: bs, x :: xs, acc, h => by
  have ih := turnL_twice bs xs [] (by simpa using h)
  rw [turnL, turnL_trues, turnL]
  simp only [List.length_nil, List.replicate_zero, List.nil_append, List.reverse_nil] at ih
  rw [ih]; simp
theorem turnL_sub : ∀ (bs cs : List Bool) (k : Nat), bs.length = cs.length → (∀ j : Nat, bs[j]? = some true → cs[j]? = some true) → turnL bs cs (List.replicate k true) = List.replicate k true ++ cs
 | [], [], k, _, _ => by simp [turnL]
 | [], _ :: _, _, h, _ => by simp at h
 | _ :: _, [], _, h, _ => by simp at h
 | true :: bs, c :: cs, k, h, hs => by
  have hc : c = true := by have := hs 0 rfl; simpa using this
  subst hc
  rw [turnL]
  have := turnL_sub bs cs (k + 1) (by simpa using h) (fun j hj => hs (j + 1) hj)
  rw [List.replicate_succ] at this
  rw [this, ← List.replicate_succ, List.replicate_succ']
  simp
 | false :: bs, c :: cs, k, h, hs => by
  rw [turnL]
  have := turnL_sub bs cs 0 (by simpa using h) (fun j hj => hs (j + 1) hj)
  simp only [List.replicate_zero, List.nil_append] at this
  rw [this]
def TurnTo (bs : List Bool) (a : List α) (i : Nat) (cur : List α) : Prop := ∃ pre, pre.length = i ∧ cur = pre ++ a.drop i ∧ turnL bs a [] = pre ++ turnL (bs.drop i) (a.drop i) []
variable {bs : List Bool} {a cur : List α} {i j : Nat}
theorem TurnTo.start (bs : List Bool) (a : List α) : TurnTo bs a 0 a := ⟨[], rfl, by simp, by simp⟩
theorem TurnTo.stop (h : TurnTo bs a i cur) (hl : bs.length = a.length) (hi : a.length ≤ i) : cur = turnL bs a [] := by
 obtain ⟨pre, _, h2, h3⟩ := h
 rw [h3, h2, List.drop_eq_nil_of_le hi, List.drop_eq_nil_of_le (by omega)]
 simp [turnL]
theorem drop_getD_cons {γ : Type} {l : List γ} {i : Nat} (h : i < l.length) : ∃ x, l.drop i = x :: l.drop (i + 1) ∧ l[i]? = some x := ⟨l[i], List.drop_eq_getElem_cons h, List.getElem?_eq_getElem h⟩
theorem TurnTo.skip (h : TurnTo bs a i cur) (hl : bs.length = a.length) (hi : i < a.length) (hb : bs[i]? = some false) : TurnTo bs a (i + 1) cur := by
 obtain ⟨pre, h1, h2, h3⟩ := h
 obtain ⟨x, e1, _⟩ := drop_getD_cons hi
 obtain ⟨b, e2, e3⟩ := drop_getD_cons (l := bs) (i := i) (by omega)
 rw [hb] at e3
 obtain rfl : false = b := Option.some.inj e3
 refine ⟨pre ++ [x], by simp [h1], ?_, ?_⟩
 ·rw [h2, e1]; simp
 ·rw [h3, e1, e2, turnL]; simp
theorem drop_run {bs : List Bool} : ∀ (m i : Nat), i + m ≤ bs.length → (∀ q, i ≤ q → q < i + m → bs[q]? = some true) → bs.drop i = List.replicate m true ++ bs.drop (i + m)
 | 0, i, _, _ => by simp
 | m + 1, i, h, hr => by
  obtain ⟨b, e2, e3⟩ := drop_getD_cons (l := bs) (i := i) (by omega)
  rw [hr i (Nat.le_refl _) (by omega)] at e3
  obtain rfl : true = b := Option.some.inj e3
  rw [e2, drop_run m (i + 1) (by omega) (fun q h1 h2 => hr q (by omega) (by omega)), show i + 1 + m = i + (m + 1) by omega, List.replicate_succ]
  rfl
def revL (l : List α) (i j : Nat) : List α := l.take i ++ ((l.take j).drop i).reverse ++ l.drop j
theorem TurnTo.turn (h : TurnTo bs a i cur) (hl : bs.length = a.length) (hij : i ≤ j) (hj : j ≤ a.length) (hr : ∀ q, i ≤ q → q < j → bs[q]? = some true) (he : j < a.length → bs[j]? = some false) : TurnTo bs a j (revL cur i j) := by
 obtain ⟨pre, h1, h2, h3⟩ := h
 have ed := drop_run (j - i) i (by omega) (fun q h1 h2 => hr q h1 (by omega))
 rw [show i + (j - i) = j by omega] at ed
 have ea : a.drop i = (a.drop i).take (j - i) ++ a.drop j := by
  conv => lhs; rw [← List.take_append_drop (j - i) (a.drop i)]
  rw [List.drop_drop, show i + (j - i) = j by omega]
 have ely : ((a.drop i).take (j - i)).length = j - i := by rw [List.length_take, List.length_drop]; omega
 refine ⟨pre ++ ((a.drop i).take (j - i)).reverse, by rw [List.length_append, List.length_reverse, ely]; omega, ?_, ?_⟩
 ·have e1 : cur.take i = pre := by rw [h2, ← h1, List.take_left]
  have e2 : (cur.take j).drop i = (a.drop i).take (j - i) := by
   rw [h2, List.drop_take, List.drop_append_of_le_length (by omega), ← h1, List.drop_length]
   simp
  have e3 : cur.drop j = a.drop j := by
   rw [h2, List.drop_append, List.drop_drop, List.drop_eq_nil_of_le (by omega), h1, show i + (j - i) = j by omega]; rfl
  unfold revL
  rw [e1, e2, e3]
 ·have e4 := turnL_trues (bs.drop j) (a.drop j) ((a.drop i).take (j - i)) []
  rw [ely, ← ed, ← ea, List.append_nil] at e4
  rw [h3, e4, turnL_acc]
  ·rw [List.append_assoc]
  ·rcases Nat.lt_or_ge j a.length with hlt | hge
   ·right
    obtain ⟨b, e2, e3⟩ := drop_getD_cons (l := bs) (i := j) (by omega)
    rw [he hlt] at e3
    obtain rfl : false = b := Option.some.inj e3
    exact ⟨_, e2⟩
   ·exact .inl ⟨List.drop_eq_nil_of_le (by omega), List.drop_eq_nil_of_le hge⟩
theorem TurnTo.length (h : TurnTo bs a i cur) (hi : i ≤ a.length) : cur.length = a.length := by
 obtain ⟨pre, h1, h2, _⟩ := h
 rw [h2, List.length_append, List.length_drop]; omega
theorem revL_get (l : List α) (i j k : Nat) (hij : i ≤ j) (hj : j ≤ l.length) : (revL l i j)[k]? = if i ≤ k ∧ k < j then l[i + j - 1 - k]? else l[k]? := by
 unfold revL
 have l1 : (l.take i).length = i := by rw [List.length_take]; omega
 have l2 : ((l.take j).drop i).length = j - i := by rw [List.length_drop, List.length_take]; omega
 rcases Nat.lt_or_ge k i with h | h
 ·rw [if_neg (by omega), List.append_assoc, List.getElem?_append_left (by omega), List.getElem?_take_of_lt h]
 ·rcases Nat.lt_or_ge k j with h' | h'
  ·rw [if_pos ⟨h, h'⟩, List.append_assoc, List.getElem?_append_right (by omega), l1, List.getElem?_append_left (by rw [List.length_reverse]; omega), List.getElem?_reverse (by omega), l2, List.getElem?_drop, List.getElem?_take_of_lt (by omega)]
   congr 1
   omega
  ·rw [if_neg (by omega), List.getElem?_append_right (by rw [List.length_append, List.length_reverse]; omega), List.length_append, List.length_reverse, l1, l2, List.getElem?_drop]
   congr 1
   omega
theorem revL_none (l : List α) (i j : Nat) (hij : i ≤ j) (hj : j ≤ l.length) (h : j ≤ i + 1) : revL l i j = l := by
 apply List.ext_getElem?
 intro k
 rw [revL_get l i j k hij hj]
 split
 ·congr 1; omega
 ·rfl
def swapL (l : List α) (a b : Nat) (d : α) : List α := (l.set a (l.getD b d)).set b (l.getD a d)
theorem revL_swap (l : List α) (i j : Nat) (d : α) (hij : i + 1 < j) (hj : j ≤ l.length) : revL (swapL l i (j - 1) d) (i + 1) (j - 1) = revL l i j := by
 apply List.ext_getElem?
 intro k
 have hlen : (swapL l i (j - 1) d).length = l.length := by simp [swapL]
 have hg : ∀ q, (swapL l i (j - 1) d)[q]? = if q = j - 1 then l[i]? else if q = i then l[j - 1]? else l[q]? := fun q => by
  unfold swapL
  rw [List.getElem?_set, List.getElem?_set, List.length_set]
  have e1 : l.getD i d = l[i]'(by omega) := by rw [List.getD_eq_getElem?_getD, List.getElem?_eq_getElem (by omega)]; rfl
  have e2 : l.getD (j - 1) d = l[j - 1]'(by omega) := by rw [List.getD_eq_getElem?_getD, List.getElem?_eq_getElem (by omega)]; rfl
  by_cases h1 : j - 1 = q
  ·rw [if_pos h1, if_pos (by omega), if_pos h1.symm, e1, List.getElem?_eq_getElem (by omega)]
  ·rw [if_neg h1, if_neg (show ¬ q = j - 1 from fun e => h1 e.symm)]
   by_cases h2 : i = q
   ·rw [if_pos h2, if_pos (by omega), if_pos h2.symm, e2, List.getElem?_eq_getElem (by omega)]
   ·rw [if_neg h2, if_neg (show ¬ q = i from fun e => h2 e.symm)]
 rw [revL_get _ _ _ _ (by omega) (by rw [hlen]; omega), revL_get _ _ _ _ (by omega) hj]
 by_cases h1 : i + 1 ≤ k ∧ k < j - 1
 ·rw [if_pos h1, if_pos (by omega), hg, if_neg (by omega), if_neg (by omega)]
  congr 1; omega
 ·rw [if_neg h1, hg]
  by_cases h2 : k = j - 1
  ·rw [if_pos h2, if_pos (by omega)]; congr 1; omega
  ·rw [if_neg h2]
   by_cases h3 : k = i
   ·rw [if_pos h3, if_pos (by omega)]; congr 1; omega
   ·rw [if_neg h3, if_neg (by omega)]
end
def mask (v : Int) (lv : List Int) : List Bool := lv.map fun l => decide (v ≤ l)
theorem mask_length (v : Int) (lv : List Int) : (mask v lv).length = lv.length := by simp [mask]
theorem mask_get (v : Int) (lv : List Int) (j : Nat) (hj : j < lv.length) : (mask v lv)[j]? = some (decide (v ≤ lv.getD j 0)) := by
 simp [mask, List.getD_eq_getElem?_getD, List.getElem?_eq_getElem hj]
def turnsF (lv : List Int) : Nat → Int → List Int → List Int
 | 0, _, a => a
 | n + 1, v, a => turnsF lv n (v - 1) (turnL (mask v lv) a [])
theorem turnsF_succ (lv : List Int) : ∀ (n : Nat) (v : Int) (a : List Int), turnsF lv (n + 1) v a = turnL (mask (v - n) lv) (turnsF lv n v a) []
 | 0, v, a => by simp [turnsF]
 | n + 1, v, a => by
  rw [turnsF, turnsF_succ lv n (v - 1), turnsF, show v - 1 - (n : Int) = v - ((n + 1 : Nat) : Int) by omega]
theorem turnsF_add (lv : List Int) : ∀ (m n : Nat) (v : Int) (a : List Int), turnsF lv (m + n) v a = turnsF lv n (v - m) (turnsF lv m v a)
 | 0, n, v, a => by simp [turnsF]
 | m + 1, n, v, a => by
  rw [show m + 1 + n = (m + n) + 1 by omega, turnsF, turnsF_add lv m n (v - 1), turnsF, show v - 1 - (m : Int) = v - ((m + 1 : Nat) : Int) by omega]
theorem turnsF_length (lv : List Int) : ∀ (n : Nat) (v : Int) (a : List Int), a.length = lv.length → (turnsF lv n v a).length = lv.length
 | 0, _, _, h => h
 | n + 1, v, a, h => by
  rw [turnsF]
  exact turnsF_length lv n _ _ (by rw [turnL_length _ _ _ (by rw [mask_length, h])]; simpa using h)
theorem turnsF_perm (lv : List Int) : ∀ (n : Nat) (v : Int) (a : List Int), a.length = lv.length → (turnsF lv n v a).Perm a
 | 0, _, _, _ => List.Perm.refl _
 | n + 1, v, a, h => by
  rw [turnsF]
  have h1 := turnL_perm (mask v lv) a [] (by rw [mask_length, h])
  rw [List.nil_append] at h1
  exact (turnsF_perm lv n _ _ (by rw [h1.length_eq]; exact h)).trans h1
theorem turnsF_even (lv : List Int) : ∀ (m : Nat) (a : List Int), a.length = lv.length → (∀ l ∈ lv, l % 2 = 1 → 2 * (m : Int) < l) → turnsF lv (2 * m) (2 * m) a = a
 | 0, _, _, _ => rfl
 | m + 1, a, h, hl => by
  have e : mask (2 * ((m + 1 : Nat) : Int) - 1) lv = mask (2 * ((m + 1 : Nat) : Int)) lv := by
   unfold mask
   refine List.map_congr_left fun l hm => ?_
   have := hl l hm
   simp only [decide_eq_decide]
   omega
  rw [show 2 * (m + 1) = (2 * m + 1) + 1 by omega, turnsF, turnsF, e]
  have h2 := turnL_twice (mask (2 * ((m + 1 : Nat) : Int)) lv) a [] (by rw [mask_length, h])
  simp only [List.length_nil, List.replicate_zero, List.nil_append, List.reverse_nil] at h2
  rw [h2, show 2 * ((m + 1 : Nat) : Int) - 1 - 1 = 2 * (m : Int) by omega]
  exact turnsF_even lv m a h (fun l hm ho => by have := hl l hm ho; omega)
def idL (n : Nat) : List Int := (List.range n).map fun (i : Nat) => (i : Int)
theorem idL_length (n : Nat) : (idL n).length = n := by simp [idL]
def topL (lv : List Int) : Int := lv.foldl max 0
theorem foldl_max_ge : ∀ (lv : List Int) (x : Int), x ≤ lv.foldl max x ∧ (∀ l ∈ lv, l ≤ lv.foldl max x) ∧ (lv.foldl max x = x ∨ lv.foldl max x ∈ lv)
 | [], x => ⟨Int.le_refl _, by simp, .inl rfl⟩
 | a :: lv, x => by
  obtain ⟨h1, h2, h3⟩ := foldl_max_ge lv (max x a)
  rw [List.foldl_cons]
  refine ⟨by omega, fun l hl => ?_, ?_⟩
  ·rcases List.mem_cons.1 hl with rfl | hl
   ·omega
   ·exact h2 l hl
  ·rcases h3 with h3 | h3
   ·rcases Int.le_total x a with h | h
    ·right; rw [h3, Int.max_eq_right h]; simp
    ·left; rw [h3, Int.max_eq_left h]
   ·right; simp [h3]
def lowL (lv : List Int) : Int := lv.foldl (fun x l => if l % 2 = 1 then min x l else x) 127
theorem foldl_low : ∀ (lv : List Int) (x : Int), lv.foldl (fun x l => if l % 2 = 1 then min x l else x) x ≤ x ∧ (∀ l ∈ lv, l % 2 = 1 → lv.foldl (fun x l => if l % 2 = 1 then min x l else x) x ≤ l) ∧ (lv.foldl (fun x l => if l % 2 = 1 then min x l else x) x = x ∨ (lv.foldl (fun x l => if l % 2 = 1 then min x l else x) x ∈ lv ∧ (lv.foldl (fun x l => if l % 2 = 1 then min x l else x) x) % 2 = 1))
 | [], x => ⟨Int.le_refl _, by simp, .inl rfl⟩
 | a :: lv, x => by
  obtain ⟨h1, h2, h3⟩ := foldl_low lv (if a % 2 = 1 then min x a else x)
  rw [List.foldl_cons]
  by_cases ha : a % 2 = 1
  ·rw [if_pos ha] at h1 h2 h3 ⊢
   refine ⟨by omega, fun l hl ho => ?_, ?_⟩
   ·rcases List.mem_cons.1 hl with rfl | hl
    ·omega
    ·exact h2 l hl ho
   ·rcases h3 with h3 | h3
    ·rcases Int.le_total x a with h | h
     ·left; rw [h3, Int.min_eq_left h]
     ·right; rw [h3, Int.min_eq_right h]; exact ⟨by simp, ha⟩
    ·right; exact ⟨by simp [h3.1], h3.2⟩
  ·rw [if_neg ha] at h1 h2 h3 ⊢
   refine ⟨h1, fun l hl ho => ?_, ?_⟩
   ·rcases List.mem_cons.1 hl with rfl | hl
    ·exact absurd ho ha
    ·exact h2 l hl ho
   ·rcases h3 with h3 | h3
    ·exact .inl h3
    ·right; exact ⟨by simp [h3.1], h3.2⟩
def ordR (lv : List Int) : List Int := turnsF lv (topL lv).toNat (topL lv) (idL lv.length)
def ordP (lv : List Int) : List Int := turnsF lv (topL lv - lowL lv + 1).toNat (topL lv) (idL lv.length)
theorem ord_eq {lv : List Int} (h : ∀ l ∈ lv, 0 ≤ l ∧ l ≤ 126) : ordP lv = ordR lv := by
 unfold ordP ordR
 obtain ⟨t1, t2, t3⟩ := foldl_max_ge lv 0
 obtain ⟨o1, o2, o3⟩ := foldl_low lv 127
 change 0 ≤ topL lv at t1
 change ∀ l ∈ lv, l ≤ topL lv at t2
 change topL lv = 0 ∨ topL lv ∈ lv at t3
 change lowL lv ≤ 127 at o1
 change ∀ l ∈ lv, l % 2 = 1 → lowL lv ≤ l at o2
 change lowL lv = 127 ∨ (lowL lv ∈ lv ∧ lowL lv % 2 = 1) at o3
 have htop : topL lv ≤ 126 := by
  rcases t3 with e | e
  ·omega
  ·exact (h _ e).2
 have hev : topL lv % 2 = 1 → topL lv ∈ lv := fun ho => by
  rcases t3 with e | e
  ·omega
  ·exact e
 generalize topL lv = T at *
 have hO : lowL lv % 2 = 1 ∧ 0 ≤ lowL lv := by
  rcases o3 with e | e
  ·omega
  ·exact ⟨e.2, (h _ e.1).1⟩
 generalize lowL lv = O at *
 by_cases hle : O ≤ T
 ·obtain ⟨m, hm⟩ : ∃ m : Nat, O = 2 * (m : Int) + 1 := ⟨(O / 2).toNat, by omega⟩
  have e1 : T.toNat = (T - O + 1).toNat + 2 * m := by omega
  rw [e1, turnsF_add, show T - ((T - O + 1).toNat : Int) = 2 * (m : Int) by omega]
  exact (turnsF_even lv m _ (turnsF_length _ _ _ _ (idL_length _)) (fun l hl ho => by have := o2 l hl ho; omega)).symm
 ·rw [show (T - O + 1).toNat = 0 by omega]
  have hT : T % 2 = 0 := by
   rcases Int.emod_two_eq T with e | e
   ·exact e
   ·exact absurd (o2 T (hev e) e) hle
  obtain ⟨m, hm⟩ : ∃ m : Nat, T = 2 * (m : Int) := ⟨(T / 2).toNat, by omega⟩
  rw [show T.toNat = 2 * m by omega, hm]
  exact (turnsF_even lv m _ (idL_length _) (fun l hl ho => by have := o2 l hl ho; have := t2 l hl; omega)).symm
def atMask (lv a : List Int) (v : Int) : List Bool := a.map fun p => decide (v ≤ lv.getD p.toNat 0)
def Masked (lv a : List Int) (v : Int) : Prop := ∀ u, u ≤ v → atMask lv a u = mask u lv
theorem Masked.start (lv : List Int) (v : Int) : Masked lv (idL lv.length) v := fun u _ => by
 unfold atMask idL mask
 rw [List.map_map]
 apply List.ext_getElem?
 intro k
 rw [List.getElem?_map, List.getElem?_map]
 rcases Nat.lt_or_ge k lv.length with hk | hk
 ·rw [List.getElem?_range hk, List.getElem?_eq_getElem hk]
  simp [List.getElem?_eq_getElem hk]
 ·rw [List.getElem?_eq_none (by simpa using hk), List.getElem?_eq_none hk]; rfl
theorem Masked.turn {lv a : List Int} {v : Int} (h : Masked lv a v) (_hl : a.length = lv.length) : Masked lv (turnL (mask v lv) a []) v := fun u hu => by
 unfold atMask
 rw [turnL_map]
 have e := h u hu
 unfold atMask at e
 rw [e]
 have := turnL_sub (mask v lv) (mask u lv) 0 (by rw [mask_length, mask_length]) (fun j hj => by
  have hlt : j < lv.length := by have := (List.getElem?_eq_some_iff.1 hj).1; rwa [mask_length] at this
  rw [mask_get _ _ _ hlt] at hj ⊢
  have := Option.some.inj hj
  simp at this ⊢
  omega)
 simpa using this
theorem Masked.mono {lv a : List Int} {v v' : Int} (h : Masked lv a v) (hv : v' ≤ v) : Masked lv a v' := fun u hu => h u (by omega)
theorem Masked.at {lv a : List Int} {v : Int} (h : Masked lv a v) (hl : a.length = lv.length) (j : Nat) (hj : j < lv.length) : decide (v ≤ lv.getD (a.getD j 0).toNat 0) = decide (v ≤ lv.getD j 0) := by
 have e := h v (Int.le_refl _)
 have e1 : (atMask lv a v)[j]? = some (decide (v ≤ lv.getD (a.getD j 0).toNat 0)) := by
  rw [atMask, List.getElem?_map, List.getElem?_eq_getElem (by omega), List.getD_eq_getElem?_getD (l := a), List.getElem?_eq_getElem (by omega)]; rfl
 rw [e, mask_get _ _ _ hj] at e1
 exact (Option.some.inj e1).symm
theorem idL_succ (k : Nat) : idL (k + 1) = idL k ++ [(k : Int)] := by simp [idL, List.range_succ]
theorem topL_succ (lv : List Int) (k : Nat) (hk : k < lv.length) : topL (lv.take (k + 1)) = max (topL (lv.take k)) (lv.getD k 0) := by
 unfold topL
 rw [List.take_add_one, List.getElem?_eq_getElem hk, List.foldl_append, List.getD_eq_getElem?_getD, List.getElem?_eq_getElem hk]; rfl
theorem lowL_succ (lv : List Int) (k : Nat) (hk : k < lv.length) : lowL (lv.take (k + 1)) = if lv.getD k 0 % 2 = 1 then min (lowL (lv.take k)) (lv.getD k 0) else lowL (lv.take k) := by
 unfold lowL
 rw [List.take_add_one, List.getElem?_eq_getElem hk, List.foldl_append, List.getD_eq_getElem?_getD, List.getElem?_eq_getElem hk]; rfl
theorem topL_bd {lv : List Int} (h : ∀ l ∈ lv, l ≤ 1000) : 0 ≤ topL lv ∧ topL lv ≤ 1000 := by
 obtain ⟨t1, _, t3⟩ := foldl_max_ge lv 0
 refine ⟨t1, ?_⟩
 rcases t3 with e | e
 ·show lv.foldl max 0 ≤ 1000; omega
 ·exact h _ e
theorem lowL_bd {lv : List Int} (h : ∀ l ∈ lv, 0 ≤ l) : 0 ≤ lowL lv ∧ lowL lv ≤ 127 := by
 obtain ⟨t1, _, t3⟩ := foldl_low lv 127
 refine ⟨?_, t1⟩
 rcases t3 with e | e
 ·show 0 ≤ lv.foldl _ 127; rw [e]; decide
 ·exact h _ e.1
theorem perm_range {a : List Int} {n : Nat} (h : a.Perm (idL n)) (j : Nat) (hj : j < n) : ∃ p : Nat, p < n ∧ a.getD j 0 = (p : Int) := by
 have hl : a.length = n := by rw [h.length_eq, idL_length]
 have hm : a.getD j 0 ∈ idL n := h.mem_iff.1 (getD_mem (by omega))
 unfold idL at hm
 obtain ⟨p, hp, e⟩ := List.mem_map.1 hm
 exact ⟨p, List.mem_range.1 hp, e.symm⟩
theorem TurnTo.at {bs : List Bool} {a cur : List Int} {i : Nat} (h : TurnTo bs a i cur) (q : Nat) (hq : i ≤ q) : cur.getD q 0 = a.getD q 0 := by
 obtain ⟨pre, h1, h2, _⟩ := h
 rw [h2, List.getD_eq_getElem?_getD, List.getElem?_append_right (by omega), h1, List.getElem?_drop, show i + (q - i) = q by omega, List.getD_eq_getElem?_getD]
theorem turnsF_masked {lv : List Int} {T : Int} : ∀ (m : Nat), Masked lv (turnsF lv m T (idL lv.length)) (T - m)
 | 0 => (Masked.start lv T).mono (by omega)
 | m + 1 => by
  rw [turnsF_succ]
  exact ((turnsF_masked m).turn (turnsF_length _ _ _ _ (idL_length _))).mono (by omega)
end Go.Proofs.YtkbinfhclaafhaaGreatDoor
namespace Go.Proofs.YtkbinfhclaafhaaGreatDoor
open Go.RowKit
theorem IRow.swap {w : World} {B g n cap : Nat} {t : List Int} (h : IRow w B g n cap t) (a b : Nat) : IRow ((w.setCell ⟨g, a, none⟩ (.int .i64 (t.getD b 0))).setCell ⟨g, b, none⟩ (.int .i64 (t.getD a 0))) B g n cap (swapL t a b 0) := (h.set a _).set b _
set_option maxRecDepth 100000 in
set_option maxHeartbeats 16000000 in
theorem refOrder_row (lv : List Int) (b off cap n : Nat) (w : World) (hl : lv.length = n) (hn : n ≤ 1000) (hc : IntsAt w b off lv) (hlv : ∀ l ∈ lv, 0 ≤ l ∧ l ≤ 1000) :
  Calls Tryz.prog 49 #[.slice (some ⟨b, off, none⟩) n cap] w fun e w' => ∃ v', e = .returned v' ∧ w'.ownsRow w.heap.size 3 1 v' n (iv (ordR lv)) ∧ Below w.heap.size w w' := by
 obtain ⟨iI, hiI, hzI0, hzI1, hzI2⟩ := info_parts Tryz.infoI8
 have HC : Hid (∀ W, Below w.heap.size w W → IntsAt W b off lv) := fun W hb => hc.below hb
 have HL : Hid (lv.length = n) := hl
 have HV : Hid (∀ l ∈ lv, 0 ≤ l ∧ l ≤ 1000) := hlv
 have htop := topL_bd (lv := lv) (fun l h => (hlv l h).2)
 have HT0 : Hid (topL lv = 0 ∨ 0 < n) := by
  by_cases h0 : 0 < n
  ·exact .inr h0
  ·left; have : lv = [] := List.length_eq_zero_iff.1 (by omega); rw [this]; rfl
 obtain ⟨T, hT⟩ : ∃ T, T = topL lv := ⟨_, rfl⟩
 have HT : Hid (T = topL lv) := hT
 rw [← hT] at htop HT0
 obtain ⟨R, hR⟩ : ∃ R, R = ordR lv := ⟨_, rfl⟩
 have HR : Hid (R = turnsF lv T.toNat T (idL n)) := by show R = _; rw [hR, ordR, hT, ← hl]
 rw [← hR]
 clear hc hl hlv hT hR
 go_enter Tryz.func49, Tryz.ntmps49
 go_wp2
 go_loopg [3, 4, 5] n (fun gk av tv iv' W => ∃ (k : Nat) (t : Int), k ≤ n ∧ gk = n - k ∧ iv' = .int .i64 k ∧ tv = .int .i64 t ∧ t = topL (lv.take k) ∧ W.ownsRow w.heap.size 3 1 av k (iv (idL k)) ∧ Below w.heap.size w W)
 case atStart => exact ⟨0, 0, by omega, rfl, rfl, rfl, by simp [topL], World.ownsRow_nil _ _ _ _, Below.refl _ _⟩
 case round =>
  obtain ⟨k, t, hk, rfl, rfl, rfl, ht, hown, hb⟩ := hrel
  obtain ⟨qa, qc, rfl⟩ := own_form hown
  by_cases hlt : k < n
  ·have hkl : k < lv.length := by rw [HL.out]; exact hlt
   have hcell := HC.out wr hb k hkl
   have hs := topL_succ lv k hkl
   rw [← ht] at hs
   have hxb := HV.out _ (getD_mem (d := 0) hkl)
   obtain ⟨x, hx⟩ : ∃ x, x = lv.getD k 0 := ⟨_, rfl⟩
   rw [← hx] at hcell hs hxb
   have HS : Hid (topL (lv.take (k + 1)) = max t x) := hs
   have HB : Hid (Below w.heap.size w wr) := hb
   have htb := topL_bd (lv := lv.take k) (fun l h => (HV.out l (List.mem_of_mem_take h)).2)
   rw [← ht] at htb
   have hbz := hb.size
   have hkn : (k : Int) < (n : Int) := by omega
   clear hs hx ht hb hkl
   go_wp2_with (at_builtin; refine wpList_push2 _ rfl _ _ 31 rfl w.heap.size 3 iI (.int .i64 0) 8 Tryz.underlying31 hiI hzI0 hzI1 hzI2 rfl (by decide) _ _ _ rfl hown _ _ rfl rfl (by omega) hbz ?_)
   intro v2 w2 hown2 hg2
   have hB2 : Below w.heap.size w w2 := HB.out.grown hg2 hbz (fun y hy => (hown.lt y hy).1)
   have hcell2 : w2.cell? ⟨b, off + k, none⟩ = some (.int .i64 x) := by
    have h1 := HC.out wr HB.out k (by rw [HL.out]; exact hlt)
    have h2 := HC.out w2 hB2 k (by rw [HL.out]; exact hlt)
    rw [h2, ← h1]; exact hcell
   have HB2 : Hid (Below w.heap.size w w2) := hB2
   have HO2 : Hid (w2.ownsRow w.heap.size 3 1 v2 (k + 1) (iv (idL (k + 1)))) := by
    show World.ownsRow _ _ _ _ _ _ _
    rw [idL_succ]
    have e : iv (idL k ++ [(k : Int)]) = iv (idL k) ++ [.int .i64 (k : Int)] := by simp [iv]
    rw [e]; exact hown2
   clear hown hown2 hg2 hB2 hcell HB
   by_cases hgt : t < x
   ·have HM : Hid (x = topL (lv.take (k + 1))) := by show x = _; rw [HS.out]; omega
    go_wp2
    go_roundg (n - (k + 1))
    case measure => omega
    case rel => exact ⟨k + 1, x, by omega, rfl, by go_num, rfl, HM.out, HO2.out, HB2.out⟩
   ·have HM : Hid (t = topL (lv.take (k + 1))) := by show t = _; rw [HS.out]; omega
    go_wp2
    go_roundg (n - (k + 1))
    case measure => omega
    case rel => exact ⟨k + 1, t, by omega, rfl, by go_num, rfl, HM.out, HO2.out, HB2.out⟩
  ·obtain rfl : k = n := by omega
   have hkn : ¬ (k : Int) < (k : Int) := by omega
   have htT : t = T := by rw [ht, HT.out, List.take_of_length_le (by rw [HL.out]; exact Nat.le_refl _)]
   subst htT
   have HO : Hid (wr.ownsRow w.heap.size 3 1 (.slice qa k qc) k (iv (idL k))) := hown
   have HB : Hid (Below w.heap.size w wr) := hb
   clear hown hb ht HT
   obtain ⟨t0, t1⟩ := htop
   go_wp2
   go_loopg [6] t.toNat (fun gk vv W => ∃ (m : Nat), m ≤ t.toNat ∧ gk = t.toNat - m ∧ vv = .int .i64 (t - m) ∧ W.ownsRow w.heap.size 3 1 (.slice qa k qc) k (iv (turnsF lv m t (idL k))) ∧ Below w.heap.size w W)
   case atStart => exact ⟨0, by omega, rfl, by simp, HO.out, HB.out⟩
   case round =>
    clear HO HB
    obtain ⟨m, hm, rfl, rfl, hown, hb⟩ := hrel
    obtain ⟨a, ha⟩ : ∃ a, a = turnsF lv m t (idL k) := ⟨_, rfl⟩
    rw [← ha] at hown
    by_cases hlt : m < t.toNat
    ·have hk0 : 0 < k := by
      rcases HT0.out with h | h
      ·omega
      ·exact h
     obtain ⟨g, qcap, hre, _, hgz, hgB⟩ := own_some hown hk0
     have hre2 : qa = some ⟨g, 0, none⟩ := (show qa = some ⟨g, 0, none⟩ ∧ qc = qcap by simpa using hre).1
     subst hre2
     have hal : a.length = k := by rw [ha]; exact (turnsF_length lv m t _ (by rw [idL_length, HL.out])).trans HL.out
     have HPm : Hid (a.Perm (idL k)) := by show a.Perm _; rw [ha]; exact turnsF_perm lv m t _ (by rw [idL_length, HL.out])
     have HMk : Hid (Masked lv a (t - m)) := by
      have := turnsF_masked (lv := lv) (T := t) m
      rw [HL.out, ← ha] at this
      exact this
     have HNx : Hid (turnsF lv (m + 1) t (idL k) = turnL (mask (t - m) lv) a []) := by show _ = _; rw [turnsF_succ, ← ha]
     have HLm : Hid ((mask (t - m) lv).length = a.length ∧ a.length = k) := ⟨by rw [mask_length, HL.out, hal], hal⟩
     obtain ⟨v, hv⟩ : ∃ v, v = t - (m : Int) := ⟨_, rfl⟩
     have HVe : Hid (v = t - (m : Int)) := hv
     have hv0 : 0 < v := by omega
     have hv1 : v ≤ 1000 := by omega
     rw [← hv] at HMk HNx HLm ⊢
     have HO : Hid (IRow wr w.heap.size g k qc a) := hown
     have HB : Hid (Below w.heap.size w wr) := hb
     have HgB : Hid (w.heap.size ≤ g) := hgB
     obtain ⟨bs, hbs⟩ : ∃ bs, bs = mask v lv := ⟨_, rfl⟩
     have HBs : Hid (∀ j, j < k → bs[j]? = some (decide (v ≤ lv.getD (a.getD j 0).toNat 0))) := fun j hj => by
      rw [hbs, mask_get _ _ _ (by rw [HL.out]; exact hj), HMk.out.at (by rw [hal, HL.out]) j (by rw [HL.out]; exact hj)]
     rw [← hbs] at HNx HLm
     clear hown hb ha hv hal hbs hre hgz hgB HMk
     go_wp2
     go_loopg [7] (k + 1) (fun gk iv' W => ∃ (i : Nat) (cur : List Int), i ≤ k + 1 ∧ gk = k + 1 - i ∧ iv' = .int .i64 i ∧ IRow W w.heap.size g k qc cur ∧ Below w.heap.size w W ∧ TurnTo bs a (min i k) cur)
     case atStart => exact ⟨0, a, by omega, rfl, rfl, HO.out, HB.out, by rw [Nat.zero_min]; exact TurnTo.start bs a⟩
     case round =>
      clear HO HB
      obtain ⟨i, cur, hi, rfl, rfl, hO, hb, hTT⟩ := hrel
      by_cases hik : i < k
      ·rw [Nat.min_eq_left (by omega)] at hTT
       have hcl := hO.len
       have HO : Hid (IRow wr w.heap.size g k qc cur) := hO
       have HB : Hid (Below w.heap.size w wr) := hb
       have HTT : Hid (TurnTo bs a i cur) := hTT
       have hik' : (i : Int) < (k : Int) := by omega
       clear hO hb hTT
       obtain ⟨W1, hW1⟩ : ∃ W1, W1 = wr := ⟨_, rfl⟩
       subst hW1
       go_wp2
       go_loopg [8] (k - i) (fun gk jv W => ∃ (j : Nat), i ≤ j ∧ j ≤ k ∧ gk = k - j ∧ jv = .int .i64 j ∧ W = W1 ∧ ∀ q, i ≤ q → q < j → bs[q]? = some true)
       case atStart => exact ⟨i, by omega, by omega, rfl, rfl, rfl, fun q h1 h2 => by omega⟩
       case round =>
        obtain ⟨j, hij, hjk, rfl, rfl, hW, hall⟩ := hrel
        subst hW
        have HA : Hid (∀ q, i ≤ q → q < j → bs[q]? = some true) := hall
        clear hall
        by_cases hgo : j < k ∧ bs[j]? = some true
        ·obtain ⟨hj, hbt⟩ := hgo
         have hbj := HBs.out j hj
         obtain ⟨p, hp, hpe⟩ := perm_range HPm.out j hj
         have hcj : wr.cell? ⟨g, j, none⟩ = some (.int .i64 (p : Int)) := by rw [HO.out.cell j hj, HTT.out.at j hij, hpe]
         have hlp := HC.out wr HB.out p (by rw [HL.out]; exact hp)
         rw [hpe, Int.toNat_natCast, hbt] at hbj
         have hvy : v ≤ lv.getD p 0 := by have := Option.some.inj hbj; simpa using this.symm
         have HA2 : Hid (∀ q, i ≤ q → q < j + 1 → bs[q]? = some true) := fun q h1 h2 => by
          by_cases e : q = j
          ·rw [e]; exact hbt
          ·exact HA.out q h1 (by omega)
         generalize lv.getD p 0 = y at *
         have hj' : (j : Int) < (k : Int) := by omega
         have hp' : (p : Int) < (k : Int) := by omega
         clear hbj hbt hpe
         go_wp2
         go_roundg (k - (j + 1))
         case measure => omega
         case rel => exact ⟨j + 1, by omega, by omega, rfl, by go_num, rfl, HA2.out⟩
        ·have HE : Hid (j < k → bs[j]? = some false) := fun hj => by
          have hbj := HBs.out j hj
          cases hd : decide (v ≤ lv.getD (a.getD j 0).toNat 0) with
          | true => rw [hd] at hbj; exact absurd ⟨hj, hbj⟩ hgo
          | false => rw [hd] at hbj; exact hbj
         have hjn : ¬ (j < k) ∨ ∃ p : Nat, j < k ∧ p < k ∧ wr.cell? ⟨g, j, none⟩ = some (.int .i64 (p : Int)) ∧ ¬ v ≤ lv.getD p 0 := by
          by_cases hj : j < k
          ·right
           obtain ⟨p, hp, hpe⟩ := perm_range HPm.out j hj
           refine ⟨p, hj, hp, by rw [HO.out.cell j hj, HTT.out.at j hij, hpe], ?_⟩
           have h1 := HE.out hj
           rw [HBs.out j hj, hpe, Int.toNat_natCast] at h1
           simpa using Option.some.inj h1
          ·exact .inl hj
         have HBk : Hid _ := HB
         clear hgo
         rcases hjn with hj | ⟨p, hj, hp, hcj, hvy⟩
         ·have hj' : ¬ (j : Int) < (k : Int) := by omega
          go_wp2
          clear hj'
          go_loopg [9, 10] (j - i) (fun gk av bv W => ∃ (s : Nat) (z : Int) (cur' : List Int), i + s + s ≤ j ∧ gk = j - i - s ∧ av = .int .i64 ((i + s : Nat) : Int) ∧ bv = .int .i64 z ∧ z = (j : Int) - s - 1 ∧ IRow W w.heap.size g k qc cur' ∧ Below w.heap.size w W ∧ revL cur' (i + s) (j - s) = revL cur i j)
          case atStart => exact ⟨0, (j : Int) - 1, cur, by omega, by omega, rfl, rfl, by omega, HO.out, HB.out, rfl⟩
          case round =>
           clear HO HB HBk
           obtain ⟨s, z, cur', hs, rfl, rfl, rfl, hz, hO, hb, hrv⟩ := hrel
           have hcl' := hO.len
           by_cases hlt5 : i + s + 1 < j - s
           ·obtain ⟨y, rfl⟩ : ∃ y : Nat, z = (y : Int) := ⟨z.toNat, by omega⟩
            have hy : y = j - s - 1 := by omega
            obtain ⟨x, hx⟩ : ∃ x, x = i + s := ⟨_, rfl⟩
            rw [← hx] at hrv ⊢
            have hrv2 := revL_swap cur' x (j - s) 0 (by omega) (by omega)
            rw [← hy, hrv] at hrv2
            have hxk : x < k := by omega
            have hyk : y < k := by omega
            have cx := hO.cell x hxk
            have cy := hO.cell y hyk
            have fx := hO.frozen x
            have cy2 := (hO.set x (cur'.getD y 0)).cell y hyk
            have fy2 := (hO.set x (cur'.getD y 0)).frozen y
            have HO2 : Hid (IRow ((wr.setCell ⟨g, x, none⟩ (.int .i64 (cur'.getD y 0))).setCell ⟨g, y, none⟩ (.int .i64 (cur'.getD x 0))) w.heap.size g k qc (swapL cur' x y 0)) := hO.swap x y
            have HB2 : Hid (Below w.heap.size w ((wr.setCell ⟨g, x, none⟩ (.int .i64 (cur'.getD y 0))).setCell ⟨g, y, none⟩ (.int .i64 (cur'.getD x 0)))) := (hb.setCell (p := ⟨g, x, none⟩) HgB.out _).setCell (p := ⟨g, y, none⟩) HgB.out _
            have HRv : Hid (revL (swapL cur' x y 0) (i + (s + 1)) (j - (s + 1)) = revL cur i j) := by
             show _ = _
             rw [show i + (s + 1) = x + 1 by omega, show j - (s + 1) = y by omega]; exact hrv2
            have HXY : Hid (x = i + s ∧ y = j - s - 1 ∧ i + s + 1 < j - s) := ⟨hx, hy, hlt5⟩
            have hxy : (x : Int) < (y : Int) := by omega
            have hxk' : (x : Int) < (k : Int) := by omega
            have hyk' : (y : Int) < (k : Int) := by omega
            have hy1 : (1 : Int) ≤ (y : Int) := by omega
            clear hO hb hrv hrv2 hx hy hz hs hlt5 hcl'
            generalize cur'.getD x 0 = ux at *
            generalize cur'.getD y 0 = uy at *
            go_wp2
            go_roundg (j - i - (s + 1))
            case measure => have := HXY.out; omega
            case rel => exact ⟨s + 1, (y : Int) - 1, _, by have := HXY.out; omega, rfl, by have := HXY.out; rw [show i + (s + 1) = x + 1 by omega]; go_num, rfl, by have := HXY.out; omega, HO2.out, HB2.out, HRv.out⟩
           ·have hxz : ¬ ((i + s : Nat) : Int) < z := by omega
            have hce : cur' = revL cur i j := by rw [← hrv, revL_none cur' (i + s) (j - s) (by omega) (by omega) (by omega)]
            have HO2 : Hid (IRow wr w.heap.size g k qc cur') := hO
            have HB2 : Hid (Below w.heap.size w wr) := hb
            have HLa : Hid (bs.length = a.length ∧ a.length = k) := HLm.out
            by_cases hji : i < j
            ·have HTn : Hid (TurnTo bs a (min (j + 1) k) cur') := by
              have h1 := HTT.out.turn HLa.out.1 hij (by rw [HLa.out.2]; exact hjk) HA.out (fun h => HE.out (by rw [← HLa.out.2]; exact h))
              rw [← hce] at h1
              by_cases h2 : j < k
              ·rw [Nat.min_eq_left (by omega)]
               exact h1.skip HLa.out.1 (by rw [HLa.out.2]; exact h2) (HE.out h2)
              ·rw [Nat.min_eq_right (by omega)]
               have : j = k := by omega
               rw [← this]; exact h1
             have hji' : (i : Int) < (j : Int) := by omega
             clear hO hb hrv hce hz hcl'
             generalize ((i + s : Nat) : Int) = xs at *
             go_wp2
             go_roundg (k + 1 - (j + 1))
             case measure => omega
             case rel => exact ⟨j + 1, cur', by omega, rfl, by go_num, HO2.out, HB2.out, HTn.out⟩
            ·have hjie : j = i := by omega
             have HTn : Hid (TurnTo bs a (min (i + 1) k) cur') := by
              rw [Nat.min_eq_left (by omega)]
              have h1 := HTT.out.skip HLa.out.1 (by rw [HLa.out.2]; exact hik) (by rw [← hjie]; exact HE.out (by rw [hjie]; exact hik))
              have h2 : cur' = cur := by rw [hce, hjie]; exact revL_none cur i i (Nat.le_refl _) (by have := hcl; omega) (by omega)
              rw [h2]; exact h1
             have hji' : ¬ (i : Int) < (j : Int) := by omega
             clear hO hb hrv hce hz hcl' hjie
             generalize ((i + s : Nat) : Int) = xs at *
             go_wp2
             go_roundg (k + 1 - (i + 1))
             case measure => omega
             case rel => exact ⟨i + 1, cur', by omega, rfl, by go_num, HO2.out, HB2.out, HTn.out⟩
         ·have hlp := HC.out wr HB.out p (by rw [HL.out]; exact hp)
          generalize lv.getD p 0 = y at *
          have hj' : (j : Int) < (k : Int) := by omega
          have hp' : (p : Int) < (k : Int) := by omega
          go_wp2
          clear hj'
          go_loopg [9, 10] (j - i) (fun gk av bv W => ∃ (s : Nat) (z : Int) (cur' : List Int), i + s + s ≤ j ∧ gk = j - i - s ∧ av = .int .i64 ((i + s : Nat) : Int) ∧ bv = .int .i64 z ∧ z = (j : Int) - s - 1 ∧ IRow W w.heap.size g k qc cur' ∧ Below w.heap.size w W ∧ revL cur' (i + s) (j - s) = revL cur i j)
          case atStart => exact ⟨0, (j : Int) - 1, cur, by omega, by omega, rfl, rfl, by omega, HO.out, HB.out, rfl⟩
          case round =>
           clear HO HB HBk
           obtain ⟨s, z, cur', hs, rfl, rfl, rfl, hz, hO, hb, hrv⟩ := hrel
           have hcl' := hO.len
           by_cases hlt5 : i + s + 1 < j - s
           ·obtain ⟨y, rfl⟩ : ∃ y : Nat, z = (y : Int) := ⟨z.toNat, by omega⟩
            have hy : y = j - s - 1 := by omega
            obtain ⟨x, hx⟩ : ∃ x, x = i + s := ⟨_, rfl⟩
            rw [← hx] at hrv ⊢
            have hrv2 := revL_swap cur' x (j - s) 0 (by omega) (by omega)
            rw [← hy, hrv] at hrv2
            have hxk : x < k := by omega
            have hyk : y < k := by omega
            have cx := hO.cell x hxk
            have cy := hO.cell y hyk
            have fx := hO.frozen x
            have cy2 := (hO.set x (cur'.getD y 0)).cell y hyk
            have fy2 := (hO.set x (cur'.getD y 0)).frozen y
            have HO2 : Hid (IRow ((wr.setCell ⟨g, x, none⟩ (.int .i64 (cur'.getD y 0))).setCell ⟨g, y, none⟩ (.int .i64 (cur'.getD x 0))) w.heap.size g k qc (swapL cur' x y 0)) := hO.swap x y
            have HB2 : Hid (Below w.heap.size w ((wr.setCell ⟨g, x, none⟩ (.int .i64 (cur'.getD y 0))).setCell ⟨g, y, none⟩ (.int .i64 (cur'.getD x 0)))) := (hb.setCell (p := ⟨g, x, none⟩) HgB.out _).setCell (p := ⟨g, y, none⟩) HgB.out _
            have HRv : Hid (revL (swapL cur' x y 0) (i + (s + 1)) (j - (s + 1)) = revL cur i j) := by
             show _ = _
             rw [show i + (s + 1) = x + 1 by omega, show j - (s + 1) = y by omega]; exact hrv2
            have HXY : Hid (x = i + s ∧ y = j - s - 1 ∧ i + s + 1 < j - s) := ⟨hx, hy, hlt5⟩
            have hxy : (x : Int) < (y : Int) := by omega
            have hxk' : (x : Int) < (k : Int) := by omega
            have hyk' : (y : Int) < (k : Int) := by omega
            have hy1 : (1 : Int) ≤ (y : Int) := by omega
            clear hO hb hrv hrv2 hx hy hz hs hlt5 hcl'
            generalize cur'.getD x 0 = ux at *
            generalize cur'.getD y 0 = uy at *
            go_wp2
            go_roundg (j - i - (s + 1))
            case measure => have := HXY.out; omega
            case rel => exact ⟨s + 1, (y : Int) - 1, _, by have := HXY.out; omega, rfl, by have := HXY.out; rw [show i + (s + 1) = x + 1 by omega]; go_num, rfl, by have := HXY.out; omega, HO2.out, HB2.out, HRv.out⟩
           ·have hxz : ¬ ((i + s : Nat) : Int) < z := by omega
            have hce : cur' = revL cur i j := by rw [← hrv, revL_none cur' (i + s) (j - s) (by omega) (by omega) (by omega)]
            have HO2 : Hid (IRow wr w.heap.size g k qc cur') := hO
            have HB2 : Hid (Below w.heap.size w wr) := hb
            have HLa : Hid (bs.length = a.length ∧ a.length = k) := HLm.out
            by_cases hji : i < j
            ·have HTn : Hid (TurnTo bs a (min (j + 1) k) cur') := by
              have h1 := HTT.out.turn HLa.out.1 hij (by rw [HLa.out.2]; exact hjk) HA.out (fun h => HE.out (by rw [← HLa.out.2]; exact h))
              rw [← hce] at h1
              by_cases h2 : j < k
              ·rw [Nat.min_eq_left (by omega)]
               exact h1.skip HLa.out.1 (by rw [HLa.out.2]; exact h2) (HE.out h2)
              ·rw [Nat.min_eq_right (by omega)]
               have : j = k := by omega
               rw [← this]; exact h1
             have hji' : (i : Int) < (j : Int) := by omega
             clear hO hb hrv hce hz hcl'
             generalize ((i + s : Nat) : Int) = xs at *
             go_wp2
             go_roundg (k + 1 - (j + 1))
             case measure => omega
             case rel => exact ⟨j + 1, cur', by omega, rfl, by go_num, HO2.out, HB2.out, HTn.out⟩
            ·have hjie : j = i := by omega
             have HTn : Hid (TurnTo bs a (min (i + 1) k) cur') := by
              rw [Nat.min_eq_left (by omega)]
              have h1 := HTT.out.skip HLa.out.1 (by rw [HLa.out.2]; exact hik) (by rw [← hjie]; exact HE.out (by rw [hjie]; exact hik))
              have h2 : cur' = cur := by rw [hce, hjie]; exact revL_none cur i i (Nat.le_refl _) (by have := hcl; omega) (by omega)
              rw [h2]; exact h1
             have hji' : ¬ (i : Int) < (j : Int) := by omega
             clear hO hb hrv hce hz hcl' hjie
             generalize ((i + s : Nat) : Int) = xs at *
             go_wp2
             go_roundg (k + 1 - (i + 1))
             case measure => omega
             case rel => exact ⟨i + 1, cur', by omega, rfl, by go_num, HO2.out, HB2.out, HTn.out⟩
      ·have hik' : ¬ (i : Int) < (k : Int) := by omega
       rw [Nat.min_eq_right (by omega)] at hTT
       have he := hTT.stop HLm.out.1 (by rw [HLm.out.2]; exact Nat.le_refl _)
       have HO2 : Hid (wr.ownsRow w.heap.size 3 1 (.slice (some ⟨g, 0, none⟩) k qc) k (iv (turnsF lv (m + 1) t (idL k)))) := by
        show World.ownsRow _ _ _ _ _ _ _
        rw [HNx.out, ← he]; exact hO
       have HB : Hid (Below w.heap.size w wr) := hb
       clear hO hb hTT he
       go_wp2
       go_roundg (t.toNat - (m + 1))
       case measure => omega
       case rel => exact ⟨m + 1, by omega, rfl, by rw [HVe.out]; go_num, HO2.out, HB.out⟩
    ·obtain rfl : m = t.toNat := by omega
     have hv : ¬ 0 < t - (t.toNat : Int) := by omega
     have HO : Hid (wr.ownsRow w.heap.size 3 1 (.slice qa k qc) k (iv R)) := by show World.ownsRow _ _ _ _ _ _ _; rw [HR.out, ← ha]; exact hown
     have HB : Hid (Below w.heap.size w wr) := hb
     generalize t - (t.toNat : Int) = z at *
     clear hown hb ha
     go_wp2
     go_ret
     exact ⟨_, rfl, HO.out, HB.out⟩
end Go.Proofs.YtkbinfhclaafhaaGreatDoor
namespace Go.Proofs.YtkbinfhclaafhaaGreatDoor
open Go.RowKit
set_option maxRecDepth 100000 in
set_option maxHeartbeats 8000000 in
theorem reverse_row (w : World) (B g n c cap i j : Nat) (cur : List Int) (hij : i ≤ j) (hjn : j ≤ n) (hn : n ≤ 1000) (h : IRow w B g n c cur) :
  Calls Tryz.prog 100 #[.slice (some ⟨g, i, none⟩) (j - i) cap] w fun e w' => e = .returned (.tuple #[]) ∧ IRow w' B g n c (revL cur i j) ∧ w.grownBy w' (some g) := by
 have HO : Hid (IRow w B g n c cur) := h
 clear h
 obtain ⟨l, hl⟩ : ∃ l, l = j - i := ⟨_, rfl⟩
 rw [← hl]
 have hl1 : l ≤ 1000 := by omega
 have HL : Hid (l = j - i ∧ i ≤ j ∧ j ≤ n) := ⟨hl, hij, hjn⟩
 clear hl hij hjn
 go_enter Tryz.func100, Tryz.ntmps100
 go_wp2
 go_loopg [2, 3] l (fun gk av bv W => ∃ (s : Nat) (z : Int) (cur' : List Int), s + s ≤ l ∧ gk = l - s ∧ av = .int .i64 ((s : Nat) : Int) ∧ bv = .int .i64 z ∧ z = (l : Int) - s - 1 ∧ IRow W B g n c cur' ∧ w.grownBy W (some g) ∧ revL cur' (i + s) (j - s) = revL cur i j)
 case atStart => exact ⟨0, (l : Int) - 1, cur, by omega, by omega, rfl, rfl, by omega, HO.out, World.grownBy.refl _ _, rfl⟩
 case round =>
  clear HO
  obtain ⟨s, z, cur', hs, rfl, rfl, rfl, hz, hO, hG, hrv⟩ := hrel
  have hcl' := hO.len
  have hL := HL.out
  by_cases hlt5 : s + 1 < l - s
  ·obtain ⟨y, rfl⟩ : ∃ y : Nat, z = (y : Int) := ⟨z.toNat, by omega⟩
   have hrv2 := revL_swap cur' (i + s) (j - s) 0 (by omega) (by omega)
   rw [show j - s - 1 = i + y by omega, hrv] at hrv2
   have cx := hO.cell (i + s) (by omega)
   have cy := hO.cell (i + y) (by omega)
   have fx := hO.frozen (i + s)
   have fy := hO.frozen (i + y)
   have hne : i + s ≠ i + y := by omega
   have HO2 : Hid (IRow ((wr.setCell ⟨g, i + s, none⟩ (.int .i64 (cur'.getD (i + y) 0))).setCell ⟨g, i + y, none⟩ (.int .i64 (cur'.getD (i + s) 0))) B g n c (swapL cur' (i + s) (i + y) 0)) := hO.swap (i + s) (i + y)
   have HG2 : Hid (w.grownBy ((wr.setCell ⟨g, i + s, none⟩ (.int .i64 (cur'.getD (i + y) 0))).setCell ⟨g, i + y, none⟩ (.int .i64 (cur'.getD (i + s) 0))) (some g)) := (hG.trans (hO.grown (i + s) _)).trans ((hO.set (i + s) _).grown (i + y) _)
   have HRv : Hid (revL (swapL cur' (i + s) (i + y) 0) (i + (s + 1)) (j - (s + 1)) = revL cur i j) := by
    show _ = _
    rw [show i + (s + 1) = i + s + 1 by omega, show j - (s + 1) = i + y by omega]; exact hrv2
   have HXY : Hid (y = l - s - 1 ∧ s + 1 < l - s) := ⟨by omega, hlt5⟩
   have hxy : (s : Int) < (y : Int) := by omega
   have hxk' : (s : Int) < (l : Int) := by omega
   have hyk' : (y : Int) < (l : Int) := by omega
   have hy1 : (1 : Int) ≤ (y : Int) := by omega
   clear hO hG hrv hrv2 hz hs hlt5 hcl' hL
   generalize cur'.getD (i + s) 0 = ux at *
   generalize cur'.getD (i + y) 0 = uy at *
   go_wp2
   go_region
   all_goals
    go_wp2
    go_roundg (l - (s + 1))
    case measure => have := HXY.out; omega
    case rel => exact ⟨s + 1, (y : Int) - 1, _, by have := HXY.out; omega, rfl, by go_num, rfl, by have := HXY.out; omega, World.ownsRow.drew HO2.out, HG2.out.trans drew_grown, HRv.out⟩
  ·have hxz : ¬ ((s : Nat) : Int) < z := by omega
   have hce : cur' = revL cur i j := by rw [← hrv, revL_none cur' (i + s) (j - s) (by omega) (by omega) (by omega)]
   have HF : Hid (IRow wr B g n c (revL cur i j) ∧ w.grownBy wr (some g)) := by rw [← hce]; exact ⟨hO, hG⟩
   clear hO hG hrv hce hz hcl' hL
   go_wp2
   go_end0
   exact ⟨rfl, HF.out.1, HF.out.2⟩
end Go.Proofs.YtkbinfhclaafhaaGreatDoor
namespace Go.Proofs.YtkbinfhclaafhaaGreatDoor
open Go.RowKit
structure OS (W w : World) (bx bo g n b off cap : Nat) (lv cur : List Int) : Prop where
 row : IRow W w.heap.size g n n cur
 bxh : W.heap[bx]? = some (.cells #[.slice (some ⟨b, off, none⟩) n cap] 31 (0, 0))
 boh : W.heap[bo]? = some (.cells #[.slice (some ⟨g, 0, none⟩) n n] 31 (0, 0))
 lv : IntsAt W b off lv
 hb : Below w.heap.size w W
section
variable {W W' w : World} {bx bo g n b off cap : Nat} {lv cur cur' : List Int}
theorem OS.cx (h : OS W w bx bo g n b off cap lv cur) : W.cell? ⟨bx, 0, none⟩ = some (.slice (some ⟨b, off, none⟩) n cap) := heap_cell h.bxh 0
theorem OS.co (h : OS W w bx bo g n b off cap lv cur) : W.cell? ⟨bo, 0, none⟩ = some (.slice (some ⟨g, 0, none⟩) n n) := heap_cell h.boh 0
theorem OS.below (h : OS W w bx bo g n b off cap lv cur) (hb : Below W.heap.size W W') : OS W' w bx bo g n b off cap lv cur :=
 ⟨own_below h.row hb, heap_keep hb h.bxh, heap_keep hb h.boh, h.lv.below hb, h.hb.trans (hb.mono h.hb.size)⟩
theorem OS.turn (h : OS W w bx bo g n b off cap lv cur) (hr : IRow W' w.heap.size g n n cur') (hg : W.grownBy W' (some g)) (hbw : b < w.heap.size) : OS W' w bx bo g n b off cap lv cur' := by
 obtain ⟨cc, hh⟩ := heap_of_own h.row
 have hgB := (h.row.lt g rfl).1
 have hB : Below w.heap.size w W' := h.hb.grown hg h.hb.size (fun y hy => by cases hy; exact hgB)
 refine ⟨hr, (hg.block bx (heap_lt h.bxh) ?_).trans h.bxh, (hg.block bo (heap_lt h.boh) ?_).trans h.boh, h.lv.grown hg (by omega), hB⟩
 ·intro e; cases e; exact absurd (cells_type h.bxh hh) (by decide)
 ·intro e; cases e; exact absurd (cells_type h.boh hh) (by decide)
end
set_option maxRecDepth 100000 in
set_option maxHeartbeats 4000000 in
theorem order1_any (W w : World) (bx bo g n b off cap tb : Nat) (lv cur : List Int) (v : Int) (h : OS W w bx bo g n b off cap lv cur) (hl : lv.length = n) (ht : W.cell? ⟨tb, 0, none⟩ = some (.int .i64 v)) (i : Nat) (hi : i < n) :
  Calls Tryz.prog 98 #[.int .i64 i, .pointer (some ⟨bx, 0, none⟩), .pointer (some ⟨tb, 0, none⟩)] W fun e W' => e = .returned (.bool (decide (v ≤ lv.getD i 0))) ∧ Below W.heap.size W W' := by
 have cx := h.cx
 have ci := h.lv i (by omega)
 have hi' : (i : Int) < (n : Int) := by omega
 clear h
 generalize lv.getD i 0 = y at *
 go_enter Tryz.func98, Tryz.ntmps98
 go_wp2
 go_region
 all_goals
  go_wp2
  go_ret
  exact ⟨rfl, (Below.refl _ _).drew⟩
set_option maxRecDepth 100000 in
set_option maxHeartbeats 4000000 in
theorem order2_any (W w : World) (bx bo g n b off cap : Nat) (lv cur : List Int) (h : OS W w bx bo g n b off cap lv cur) (hn : n ≤ 1000) (hbw : b < w.heap.size) (i j : Nat) (hij : i < j) (hj : j ≤ n) :
  Calls Tryz.prog 99 #[.int .i64 i, .int .i64 j, .pointer (some ⟨bo, 0, none⟩)] W fun e W' => e = .returned (.tuple #[]) ∧ OS W' w bx bo g n b off cap lv (revL cur i j) ∧ W.grownBy W' (some g) := by
 have co := h.co
 have HR : Hid (∀ cp, Calls Tryz.prog 100 #[.slice (some ⟨g, i, none⟩) (j - i) cp] W fun e w' => e = .returned (.tuple #[]) ∧ IRow w' w.heap.size g n n (revL cur i j) ∧ W.grownBy w' (some g)) := fun cp => reverse_row W w.heap.size g n n cp i j cur (by omega) hj hn h.row
 have HO : Hid (OS W w bx bo g n b off cap lv cur) := h
 have h1 : (i : Int) ≤ (j : Int) := by omega
 have h2 : (j : Int) ≤ (n : Int) := by omega
 have h3 : (i : Int) ≤ (n : Int) := by omega
 have h4 : ¬ i = n := by omega
 have h5 : ¬ n = i := by omega
 clear h
 go_enter Tryz.func99, Tryz.ntmps99
 go_wp2_with fail
 refine (HR.out _).mono ?_
 rintro ev W2 ⟨rfl, hR2, hg2⟩
 have H2 : Hid (OS W2 w bx bo g n b off cap lv (revL cur i j) ∧ W.grownBy W2 (some g)) := ⟨HO.out.turn hR2 hg2 hbw, hg2⟩
 clear hR2 hg2 HR
 go_wp2
 go_end0
 exact ⟨rfl, H2.out.1, H2.out.2⟩
end Go.Proofs.YtkbinfhclaafhaaGreatDoor
