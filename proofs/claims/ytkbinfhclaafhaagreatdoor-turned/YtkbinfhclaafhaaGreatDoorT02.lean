import Derived.Test.YtkbinfhclaafhaaGreatDoorM07
import Derived.Test.YtkbinfhclaafhaaGreatDoorM04
import Derived.Test.YtkbinfhclaafhaaGreatDoorM12
import Derived.Test.YtkbinfhclaafhaaGreatDoorM18
import Derived.Test.YtkbinfhclaafhaaGreatDoorM19
import Derived.Test.YtkbinfhclaafhaaGreatDoorT01
namespace Go.Proofs.YtkbinfhclaafhaaGreatDoor
section
variable {α β : Type}
def turnL : List Bool → List α → List α → List α
 | [], _, acc => acc
 | _ :: _, [], acc => acc
 | true :: bs, x :: xs, acc => turnL bs xs (x :: acc)
 | false :: bs, x :: xs, acc => acc ++ x :: turnL bs xs []
theorem turnL_length : ∀ (bs : List Bool) (xs acc : List α), bs.length = xs.length → (turnL bs xs acc).length = acc.length + xs.length
 | [], [], acc, _ => rfl
 | [], _ :: _, _, h => by simp at h
 | _ :: _, [], _, h => by simp at h
 | true :: bs, x :: xs, acc, h => by
  rw [turnL, turnL_length bs xs _ (by simpa using h)]; simp; omega
 | false :: bs, x :: xs, acc, h => by
  rw [turnL, List.length_append, List.length_cons, turnL_length bs xs _ (by simpa using h)]; simp
theorem turnL_perm : ∀ (bs : List Bool) (xs acc : List α), bs.length = xs.length → (turnL bs xs acc).Perm (acc ++ xs)
 | [], [], acc, _ => by rw [turnL, List.append_nil]
 | [], _ :: _, _, h => by simp at h
 | _ :: _, [], _, h => by simp at h
 | true :: bs, x :: xs, acc, h => by
  rw [turnL]
  refine (turnL_perm bs xs _ (by simpa using h)).trans ?_
  exact (List.perm_middle (l₁ := acc) (a := x) (l₂ := xs)).symm
 | false :: bs, x :: xs, acc, h => by
  rw [turnL]
  exact (((turnL_perm bs xs [] (by simpa using h)).cons x)).append_left acc
theorem turnL_map (f : α → β) : ∀ (bs : List Bool) (xs acc : List α), (turnL bs xs acc).map f = turnL bs (xs.map f) (acc.map f)
 | [], _, acc => rfl
 | _ :: _, [], acc => rfl
 | true :: bs, x :: xs, acc => by rw [turnL, List.map_cons, turnL, turnL_map f bs xs]; rfl
 | false :: bs, x :: xs, acc => by rw [turnL, List.map_cons, turnL, List.map_append, List.map_cons, turnL_map f bs xs]; rfl
theorem turnL_trues (bs : List Bool) (xs : List α) : ∀ (ys acc : List α), turnL (List.replicate ys.length true ++ bs) (ys ++ xs) acc = turnL bs xs (ys.reverse ++ acc)
 | [], acc => by simp
 | y :: ys, acc => by
  rw [List.length_cons, List.replicate_succ, List.cons_append, List.cons_append, turnL, turnL_trues bs xs ys]
  simp
theorem turnL_acc : ∀ (bs : List Bool) (xs acc : List α), (bs = [] ∧ xs = []) ∨ (∃ bs', bs = false :: bs') → turnL bs xs acc = acc ++ turnL bs xs []
 | _, _, acc, .inl ⟨h1, h2⟩ => by subst h1; subst h2; simp [turnL]
 | _, [], acc, .inr ⟨bs', h⟩ => by subst h; simp [turnL]
 | _, x :: xs, acc, .inr ⟨bs', h⟩ => by subst h; simp [turnL]
theorem turnL_twice : ∀ (bs : List Bool) (xs acc : List α), bs.length = xs.length → turnL (List.replicate acc.length true ++ bs) (turnL bs xs acc) [] = acc.reverse ++ xs
 | [], [], acc, _ => by
  have := turnL_trues [] [] acc []
  simp only [List.append_nil] at this ⊢
  rw [turnL, this]
  simp [turnL]
 | [], _ :: _, _, h => by simp at h
 | _ :: _, [], _, h => by simp at h
 | true :: bs, x :: xs, acc, h => by
  have ih := turnL_twice bs xs (x :: acc) (by simpa using h)
  rw [turnL]
  rw [List.length_cons, List.replicate_succ', List.append_assoc] at ih
  simpa using ih
 | false :: bs, x :: xs, acc, h => by
  have ih := turnL_twice bs xs [] (by simpa using h)
  rw [turnL, turnL_trues, turnL]
  simp only [List.length_nil, List.replicate_zero, List.nil_append, List.reverse_nil] at ih
  rw [ih]; simp
theorem turnL_sub : ∀ (bs cs : List Bool) (k : Nat), bs.length = cs.length → (∀ j : Nat, bs[j]? = some true → cs[j]? = some true) → turnL bs cs (List.replicate k true) = List.replicate k true ++ cs
 | [], [], k, _, _ => by simp [turnL]
 | [], _ :: _, _, h, _ => by simp at h
 | _ :: _, [], _, h, _ => by simp at h
 | true :: bs, c :: cs, k, h, hs => by
  have hc : c = true := by have := hs 0 rfl; simpa using this
  subst hc
  rw [turnL]
  have := turnL_sub bs cs (k + 1) (by simpa using h) (fun j hj => hs (j + 1) hj)
  rw [List.replicate_succ] at this
  rw [this, ← List.replicate_succ, List.replicate_succ']
  simp
 | false :: bs, c :: cs, k, h, hs => by
  rw [turnL]
  have := turnL_sub bs cs 0 (by simpa using h) (fun j hj => hs (j + 1) hj)
  simp only [List.replicate_zero, List.nil_append] at this
  rw [this]
def TurnTo (bs : List Bool) (a : List α) (i : Nat) (cur : List α) : Prop := ∃ pre, pre.length = i ∧ cur = pre ++ a.drop i ∧ turnL bs a [] = pre ++ turnL (bs.drop i) (a.drop i) []
variable {bs : List Bool} {a cur : List α} {i j : Nat}
theorem TurnTo.start (bs : List Bool) (a : List α) : TurnTo bs a 0 a := ⟨[], rfl, by simp, by simp⟩
theorem TurnTo.stop (h : TurnTo bs a i cur) (hl : bs.length = a.length) (hi : a.length ≤ i) : cur = turnL bs a [] := by
 obtain ⟨pre, _, h2, h3⟩ := h
 rw [h3, h2, List.drop_eq_nil_of_le hi, List.drop_eq_nil_of_le (by omega)]
 simp [turnL]
theorem drop_getD_cons {γ : Type} {l : List γ} {i : Nat} (h : i < l.length) : ∃ x, l.drop i = x :: l.drop (i + 1) ∧ l[i]? = some x := ⟨l[i], List.drop_eq_getElem_cons h, List.getElem?_eq_getElem h⟩
theorem TurnTo.skip (h : TurnTo bs a i cur) (hl : bs.length = a.length) (hi : i < a.length) (hb : bs[i]? = some false) : TurnTo bs a (i + 1) cur := by
 obtain ⟨pre, h1, h2, h3⟩ := h
 obtain ⟨x, e1, _⟩ := drop_getD_cons hi
 obtain ⟨b, e2, e3⟩ := drop_getD_cons (l := bs) (i := i) (by omega)
 rw [hb] at e3
 obtain rfl : false = b := Option.some.inj e3
 refine ⟨pre ++ [x], by simp [h1], ?_, ?_⟩
 ·rw [h2, e1]; simp
 ·rw [h3, e1, e2, turnL]; simp
theorem drop_run {bs : List Bool} : ∀ (m i : Nat), i + m ≤ bs.length → (∀ q, i ≤ q → q < i + m → bs[q]? = some true) → bs.drop i = List.replicate m true ++ bs.drop (i + m)
 | 0, i, _, _ => by simp
 | m + 1, i, h, hr => by
  obtain ⟨b, e2, e3⟩ := drop_getD_cons (l := bs) (i := i) (by omega)
  rw [hr i (Nat.le_refl _) (by omega)] at e3
  obtain rfl : true = b := Option.some.inj e3
  rw [e2, drop_run m (i + 1) (by omega) (fun q h1 h2 => hr q (by omega) (by omega)), show i + 1 + m = i + (m + 1) by omega, List.replicate_succ]
  rfl
def revL (l : List α) (i j : Nat) : List α := l.take i ++ ((l.take j).drop i).reverse ++ l.drop j
theorem TurnTo.turn (h : TurnTo bs a i cur) (hl : bs.length = a.length) (hij : i ≤ j) (hj : j ≤ a.length) (hr : ∀ q, i ≤ q → q < j → bs[q]? = some true) (he : j < a.length → bs[j]? = some false) : TurnTo bs a j (revL cur i j) := by
 obtain ⟨pre, h1, h2, h3⟩ := h
 have ed := drop_run (j - i) i (by omega) (fun q h1 h2 => hr q h1 (by omega))
 rw [show i + (j - i) = j by omega] at ed
 have ea : a.drop i = (a.drop i).take (j - i) ++ a.drop j := by
  conv => lhs; rw [← List.take_append_drop (j - i) (a.drop i)]
  rw [List.drop_drop, show i + (j - i) = j by omega]
 have ely : ((a.drop i).take (j - i)).length = j - i := by rw [List.length_take, List.length_drop]; omega
 refine ⟨pre ++ ((a.drop i).take (j - i)).reverse, by rw [List.length_append, List.length_reverse, ely]; omega, ?_, ?_⟩
 ·have e1 : cur.take i = pre := by rw [h2, ← h1, List.take_left]
  have e2 : (cur.take j).drop i = (a.drop i).take (j - i) := by
   rw [h2, List.drop_take, List.drop_append_of_le_length (by omega), ← h1, List.drop_length]
   simp
  have e3 : cur.drop j = a.drop j := by
   rw [h2, List.drop_append, List.drop_drop, List.drop_eq_nil_of_le (by omega), h1, show i + (j - i) = j by omega]; rfl
  unfold revL
  rw [e1, e2, e3]
 ·have e4 := turnL_trues (bs.drop j) (a.drop j) ((a.drop i).take (j - i)) []
  rw [ely, ← ed, ← ea, List.append_nil] at e4
  rw [h3, e4, turnL_acc]
  ·rw [List.append_assoc]
  ·rcases Nat.lt_or_ge j a.length with hlt | hge
   ·right
    obtain ⟨b, e2, e3⟩ := drop_getD_cons (l := bs) (i := j) (by omega)
    rw [he hlt] at e3
    obtain rfl : false = b := Option.some.inj e3
    exact ⟨_, e2⟩
   ·exact .inl ⟨List.drop_eq_nil_of_le (by omega), List.drop_eq_nil_of_le hge⟩
theorem TurnTo.length (h : TurnTo bs a i cur) (hi : i ≤ a.length) : cur.length = a.length := by
 obtain ⟨pre, h1, h2, _⟩ := h
 rw [h2, List.length_append, List.length_drop]; omega
theorem revL_get (l : List α) (i j k : Nat) (hij : i ≤ j) (hj : j ≤ l.length) : (revL l i j)[k]? = if i ≤ k ∧ k < j then l[i + j - 1 - k]? else l[k]? := by
 unfold revL
 have l1 : (l.take i).length = i := by rw [List.length_take]; omega
 have l2 : ((l.take j).drop i).length = j - i := by rw [List.length_drop, List.length_take]; omega
 rcases Nat.lt_or_ge k i with h | h
 ·rw [if_neg (by omega), List.append_assoc, List.getElem?_append_left (by omega), List.getElem?_take_of_lt h]
 ·rcases Nat.lt_or_ge k j with h' | h'
  ·rw [if_pos ⟨h, h'⟩, List.append_assoc, List.getElem?_append_right (by omega), l1, List.getElem?_append_left (by rw [List.length_reverse]; omega), List.getElem?_reverse (by omega), l2, List.getElem?_drop, List.getElem?_take_of_lt (by omega)]
   congr 1
   omega
  ·rw [if_neg (by omega), List.getElem?_append_right (by rw [List.length_append, List.length_reverse]; omega), List.length_append, List.length_reverse, l1, l2, List.getElem?_drop]
   congr 1
   omega
theorem revL_none (l : List α) (i j : Nat) (hij : i ≤ j) (hj : j ≤ l.length) (h : j ≤ i + 1) : revL l i j = l := by
 apply List.ext_getElem?
 intro k
 rw [revL_get l i j k hij hj]
 split
 ·congr 1; omega
 ·rfl
def swapL (l : List α) (a b : Nat) (d : α) : List α := (l.set a (l.getD b d)).set b (l.getD a d)
theorem revL_swap (l : List α) (i j : Nat) (d : α) (hij : i + 1 < j) (hj : j ≤ l.length) : revL (swapL l i (j - 1) d) (i + 1) (j - 1) = revL l i j := by
 apply List.ext_getElem?
 intro k
 have hlen : (swapL l i (j - 1) d).length = l.length := by simp [swapL]
 have hg : ∀ q, (swapL l i (j - 1) d)[q]? = if q = j - 1 then l[i]? else if q = i then l[j - 1]? else l[q]? := fun q => by
  unfold swapL
  rw [List.getElem?_set, List.getElem?_set, List.length_set]
  have e1 : l.getD i d = l[i]'(by omega) := by rw [List.getD_eq_getElem?_getD, List.getElem?_eq_getElem (by omega)]; rfl
  have e2 : l.getD (j - 1) d = l[j - 1]'(by omega) := by rw [List.getD_eq_getElem?_getD, List.getElem?_eq_getElem (by omega)]; rfl
  by_cases h1 : j - 1 = q
  ·rw [if_pos h1, if_pos (by omega), if_pos h1.symm, e1, List.getElem?_eq_getElem (by omega)]
  ·rw [if_neg h1, if_neg (show ¬ q = j - 1 from fun e => h1 e.symm)]
   by_cases h2 : i = q
   ·rw [if_pos h2, if_pos (by omega), if_pos h2.symm, e2, List.getElem?_eq_getElem (by omega)]
   ·rw [if_neg h2, if_neg (show ¬ q = i from fun e => h2 e.symm)]
 rw [revL_get _ _ _ _ (by omega) (by rw [hlen]; omega), revL_get _ _ _ _ (by omega) hj]
 by_cases h1 : i + 1 ≤ k ∧ k < j - 1
 ·rw [if_pos h1, if_pos (by omega), hg, if_neg (by omega), if_neg (by omega)]
  congr 1; omega
 ·rw [if_neg h1, hg]
  by_cases h2 : k = j - 1
  ·rw [if_pos h2, if_pos (by omega)]; congr 1; omega
  ·rw [if_neg h2]
   by_cases h3 : k = i
   ·rw [if_pos h3, if_pos (by omega)]; congr 1; omega
   ·rw [if_neg h3, if_neg (by omega)]
end
def mask (v : Int) (lv : List Int) : List Bool := lv.map fun l => decide (v ≤ l)
theorem mask_length (v : Int) (lv : List Int) : (mask v lv).length = lv.length := by simp [mask]
theorem mask_get (v : Int) (lv : List Int) (j : Nat) (hj : j < lv.length) : (mask v lv)[j]? = some (decide (v ≤ lv.getD j 0)) := by
 simp [mask, List.getD_eq_getElem?_getD, List.getElem?_eq_getElem hj]
def turnsF (lv : List Int) : Nat → Int → List Int → List Int
 | 0, _, a => a
 | n + 1, v, a => turnsF lv n (v - 1) (turnL (mask v lv) a [])
theorem turnsF_succ (lv : List Int) : ∀ (n : Nat) (v : Int) (a : List Int), turnsF lv (n + 1) v a = turnL (mask (v - n) lv) (turnsF lv n v a) []
 | 0, v, a => by simp [turnsF]
 | n + 1, v, a => by
  rw [turnsF, turnsF_succ lv n (v - 1), turnsF, show v - 1 - (n : Int) = v - ((n + 1 : Nat) : Int) by omega]
theorem turnsF_add (lv : List Int) : ∀ (m n : Nat) (v : Int) (a : List Int), turnsF lv (m + n) v a = turnsF lv n (v - m) (turnsF lv m v a)
 | 0, n, v, a => by simp [turnsF]
 | m + 1, n, v, a => by
  rw [show m + 1 + n = (m + n) + 1 by omega, turnsF, turnsF_add lv m n (v - 1), turnsF, show v - 1 - (m : Int) = v - ((m + 1 : Nat) : Int) by omega]
theorem turnsF_length (lv : List Int) : ∀ (n : Nat) (v : Int) (a : List Int), a.length = lv.length → (turnsF lv n v a).length = lv.length
 | 0, _, _, h => h
 | n + 1, v, a, h => by
  rw [turnsF]
  exact turnsF_length lv n _ _ (by rw [turnL_length _ _ _ (by rw [mask_length, h])]; simpa using h)
theorem turnsF_perm (lv : List Int) : ∀ (n : Nat) (v : Int) (a : List Int), a.length = lv.length → (turnsF lv n v a).Perm a
 | 0, _, _, _ => List.Perm.refl _
 | n + 1, v, a, h => by
  rw [turnsF]
  have h1 := turnL_perm (mask v lv) a [] (by rw [mask_length, h])
  rw [List.nil_append] at h1
  exact (turnsF_perm lv n _ _ (by rw [h1.length_eq]; exact h)).trans h1
theorem turnsF_even (lv : List Int) : ∀ (m : Nat) (a : List Int), a.length = lv.length → (∀ l ∈ lv, l % 2 = 1 → 2 * (m : Int) < l) → turnsF lv (2 * m) (2 * m) a = a
 | 0, _, _, _ => rfl
 | m + 1, a, h, hl => by
  have e : mask (2 * ((m + 1 : Nat) : Int) - 1) lv = mask (2 * ((m + 1 : Nat) : Int)) lv := by
   unfold mask
   refine List.map_congr_left fun l hm => ?_
   have := hl l hm
   simp only [decide_eq_decide]
   omega
  rw [show 2 * (m + 1) = (2 * m + 1) + 1 by omega, turnsF, turnsF, e]
  have h2 := turnL_twice (mask (2 * ((m + 1 : Nat) : Int)) lv) a [] (by rw [mask_length, h])
  simp only [List.length_nil, List.replicate_zero, List.nil_append, List.reverse_nil] at h2
  rw [h2, show 2 * ((m + 1 : Nat) : Int) - 1 - 1 = 2 * (m : Int) by omega]
  exact turnsF_even lv m a h (fun l hm ho => by have := hl l hm ho; omega)
def idL (n : Nat) : List Int := (List.range n).map fun (i : Nat) => (i : Int)
theorem idL_length (n : Nat) : (idL n).length = n := by simp [idL]
def topL (lv : List Int) : Int := lv.foldl max 0
theorem foldl_max_ge : ∀ (lv : List Int) (x : Int), x ≤ lv.foldl max x ∧ (∀ l ∈ lv, l ≤ lv.foldl max x) ∧ (lv.foldl max x = x ∨ lv.foldl max x ∈ lv)
 | [], x => ⟨Int.le_refl _, by simp, .inl rfl⟩
 | a :: lv, x => by
  obtain ⟨h1, h2, h3⟩ := foldl_max_ge lv (max x a)
  rw [List.foldl_cons]
  refine ⟨by omega, fun l hl => ?_, ?_⟩
  ·rcases List.mem_cons.1 hl with rfl | hl
   ·omega
   ·exact h2 l hl
  ·rcases h3 with h3 | h3
   ·rcases Int.le_total x a with h | h
    ·right; rw [h3, Int.max_eq_right h]; simp
    ·left; rw [h3, Int.max_eq_left h]
   ·right; simp [h3]
def lowL (lv : List Int) : Int := lv.foldl (fun x l => if l % 2 = 1 then min x l else x) 127
theorem foldl_low : ∀ (lv : List Int) (x : Int), lv.foldl (fun x l => if l % 2 = 1 then min x l else x) x ≤ x ∧ (∀ l ∈ lv, l % 2 = 1 → lv.foldl (fun x l => if l % 2 = 1 then min x l else x) x ≤ l) ∧ (lv.foldl (fun x l => if l % 2 = 1 then min x l else x) x = x ∨ (lv.foldl (fun x l => if l % 2 = 1 then min x l else x) x ∈ lv ∧ (lv.foldl (fun x l => if l % 2 = 1 then min x l else x) x) % 2 = 1))
 | [], x => ⟨Int.le_refl _, by simp, .inl rfl⟩
 | a :: lv, x => by
  obtain ⟨h1, h2, h3⟩ := foldl_low lv (if a % 2 = 1 then min x a else x)
  rw [List.foldl_cons]
  by_cases ha : a % 2 = 1
  ·rw [if_pos ha] at h1 h2 h3 ⊢
   refine ⟨by omega, fun l hl ho => ?_, ?_⟩
   ·rcases List.mem_cons.1 hl with rfl | hl
    ·omega
    ·exact h2 l hl ho
   ·rcases h3 with h3 | h3
    ·rcases Int.le_total x a with h | h
     ·left; rw [h3, Int.min_eq_left h]
     ·right; rw [h3, Int.min_eq_right h]; exact ⟨by simp, ha⟩
    ·right; exact ⟨by simp [h3.1], h3.2⟩
  ·rw [if_neg ha] at h1 h2 h3 ⊢
   refine ⟨h1, fun l hl ho => ?_, ?_⟩
   ·rcases List.mem_cons.1 hl with rfl | hl
    ·exact absurd ho ha
    ·exact h2 l hl ho
   ·rcases h3 with h3 | h3
    ·exact .inl h3
    ·right; exact ⟨by simp [h3.1], h3.2⟩
def ordR (lv : List Int) : List Int := turnsF lv (topL lv).toNat (topL lv) (idL lv.length)
def ordP (lv : List Int) : List Int := turnsF lv (topL lv - lowL lv + 1).toNat (topL lv) (idL lv.length)
theorem ord_eq {lv : List Int} (h : ∀ l ∈ lv, 0 ≤ l ∧ l ≤ 126) : ordP lv = ordR lv := by
 unfold ordP ordR
 obtain ⟨t1, t2, t3⟩ := foldl_max_ge lv 0
 obtain ⟨o1, o2, o3⟩ := foldl_low lv 127
 change 0 ≤ topL lv at t1
 change ∀ l ∈ lv, l ≤ topL lv at t2
 change topL lv = 0 ∨ topL lv ∈ lv at t3
 change lowL lv ≤ 127 at o1
 change ∀ l ∈ lv, l % 2 = 1 → lowL lv ≤ l at o2
 change lowL lv = 127 ∨ (lowL lv ∈ lv ∧ lowL lv % 2 = 1) at o3
 have htop : topL lv ≤ 126 := by
  rcases t3 with e | e
  ·omega
  ·exact (h _ e).2
 have hev : topL lv % 2 = 1 → topL lv ∈ lv := fun ho => by
  rcases t3 with e | e
  ·omega
  ·exact e
 generalize topL lv = T at *
 have hO : lowL lv % 2 = 1 ∧ 0 ≤ lowL lv := by
  rcases o3 with e | e
  ·omega
  ·exact ⟨e.2, (h _ e.1).1⟩
 generalize lowL lv = O at *
 by_cases hle : O ≤ T
 ·obtain ⟨m, hm⟩ : ∃ m : Nat, O = 2 * (m : Int) + 1 := ⟨(O / 2).toNat, by omega⟩
  have e1 : T.toNat = (T - O + 1).toNat + 2 * m := by omega
  rw [e1, turnsF_add, show T - ((T - O + 1).toNat : Int) = 2 * (m : Int) by omega]
  exact (turnsF_even lv m _ (turnsF_length _ _ _ _ (idL_length _)) (fun l hl ho => by have := o2 l hl ho; omega)).symm
 ·rw [show (T - O + 1).toNat = 0 by omega]
  have hT : T % 2 = 0 := by
   rcases Int.emod_two_eq T with e | e
   ·exact e
   ·exact absurd (o2 T (hev e) e) hle
  obtain ⟨m, hm⟩ : ∃ m : Nat, T = 2 * (m : Int) := ⟨(T / 2).toNat, by omega⟩
  rw [show T.toNat = 2 * m by omega, hm]
  exact (turnsF_even lv m _ (idL_length _) (fun l hl ho => by have := o2 l hl ho; have := t2 l hl; omega)).symm
def atMask (lv a : List Int) (v : Int) : List Bool := a.map fun p => decide (v ≤ lv.getD p.toNat 0)
def Masked (lv a : List Int) (v : Int) : Prop := ∀ u, u ≤ v → atMask lv a u = mask u lv
theorem Masked.start (lv : List Int) (v : Int) : Masked lv (idL lv.length) v := fun u _ => by
 unfold atMask idL mask
 rw [List.map_map]
 apply List.ext_getElem?
 intro k
 rw [List.getElem?_map, List.getElem?_map]
 rcases Nat.lt_or_ge k lv.length with hk | hk
 ·rw [List.getElem?_range hk, List.getElem?_eq_getElem hk]
  simp [List.getElem?_eq_getElem hk]
 ·rw [List.getElem?_eq_none (by simpa using hk), List.getElem?_eq_none hk]; rfl
theorem Masked.turn {lv a : List Int} {v : Int} (h : Masked lv a v) (_hl : a.length = lv.length) : Masked lv (turnL (mask v lv) a []) v := fun u hu => by
 unfold atMask
 rw [turnL_map]
 have e := h u hu
 unfold atMask at e
 rw [e]
 have := turnL_sub (mask v lv) (mask u lv) 0 (by rw [mask_length, mask_length]) (fun j hj => by
  have hlt : j < lv.length := by have := (List.getElem?_eq_some_iff.1 hj).1; rwa [mask_length] at this
  rw [mask_get _ _ _ hlt] at hj ⊢
  have := Option.some.inj hj
  simp at this ⊢
  omega)
 simpa using this
theorem Masked.mono {lv a : List Int} {v v' : Int} (h : Masked lv a v) (hv : v' ≤ v) : Masked lv a v' := fun u hu => h u (by omega)
theorem Masked.at {lv a : List Int} {v : Int} (h : Masked lv a v) (hl : a.length = lv.length) (j : Nat) (hj : j < lv.length) : decide (v ≤ lv.getD (a.getD j 0).toNat 0) = decide (v ≤ lv.getD j 0) := by
 have e := h v (Int.le_refl _)
 have e1 : (atMask lv a v)[j]? = some (decide (v ≤ lv.getD (a.getD j 0).toNat 0)) := by
  rw [atMask, List.getElem?_map, List.getElem?_eq_getElem (by omega), List.getD_eq_getElem?_getD (l := a), List.getElem?_eq_getElem (by omega)]; rfl
 rw [e, mask_get _ _ _ hj] at e1
 exact (Option.some.inj e1).symm
theorem idL_succ (k : Nat) : idL (k + 1) = idL k ++ [(k : Int)] := by simp [idL, List.range_succ]
theorem topL_succ (lv : List Int) (k : Nat) (hk : k < lv.length) : topL (lv.take (k + 1)) = max (topL (lv.take k)) (lv.getD k 0) := by
 unfold topL
 rw [List.take_add_one, List.getElem?_eq_getElem hk, List.foldl_append, List.getD_eq_getElem?_getD, List.getElem?_eq_getElem hk]; rfl
theorem lowL_succ (lv : List Int) (k : Nat) (hk : k < lv.length) : lowL (lv.take (k + 1)) = if lv.getD k 0 % 2 = 1 then min (lowL (lv.take k)) (lv.getD k 0) else lowL (lv.take k) := by
 unfold lowL
 rw [List.take_add_one, List.getElem?_eq_getElem hk, List.foldl_append, List.getD_eq_getElem?_getD, List.getElem?_eq_getElem hk]; rfl
theorem topL_bd {lv : List Int} (h : ∀ l ∈ lv, l ≤ 1000) : 0 ≤ topL lv ∧ topL lv ≤ 1000 := by
 obtain ⟨t1, _, t3⟩ := foldl_max_ge lv 0
 refine ⟨t1, ?_⟩
 rcases t3 with e | e
 ·show lv.foldl max 0 ≤ 1000; omega
 ·exact h _ e
theorem lowL_bd {lv : List Int} (h : ∀ l ∈ lv, 0 ≤ l) : 0 ≤ lowL lv ∧ lowL lv ≤ 127 := by
 obtain ⟨t1, _, t3⟩ := foldl_low lv 127
 refine ⟨?_, t1⟩
 rcases t3 with e | e
 ·show 0 ≤ lv.foldl _ 127; rw [e]; decide
 ·exact h _ e.1
theorem perm_range {a : List Int} {n : Nat} (h : a.Perm (idL n)) (j : Nat) (hj : j < n) : ∃ p : Nat, p < n ∧ a.getD j 0 = (p : Int) := by
 have hl : a.length = n := by rw [h.length_eq, idL_length]
 have hm : a.getD j 0 ∈ idL n := h.mem_iff.1 (getD_mem (by omega))
 unfold idL at hm
 obtain ⟨p, hp, e⟩ := List.mem_map.1 hm
 exact ⟨p, List.mem_range.1 hp, e.symm⟩
theorem TurnTo.at {bs : List Bool} {a cur : List Int} {i : Nat} (h : TurnTo bs a i cur) (q : Nat) (hq : i ≤ q) : cur.getD q 0 = a.getD q 0 := by
 obtain ⟨pre, h1, h2, _⟩ := h
 rw [h2, List.getD_eq_getElem?_getD, List.getElem?_append_right (by omega), h1, List.getElem?_drop, show i + (q - i) = q by omega, List.getD_eq_getElem?_getD]
end Go.Proofs.YtkbinfhclaafhaaGreatDoor
namespace Go.Proofs.YtkbinfhclaafhaaGreatDoor
open Go.RowKit
theorem IRow.swap {w : World} {B g n cap : Nat} {t : List Int} (h : IRow w B g n cap t) (a b : Nat) : IRow ((w.setCell ⟨g, a, none⟩ (.int .i64 (t.getD b 0))).setCell ⟨g, b, none⟩ (.int .i64 (t.getD a 0))) B g n cap (swapL t a b 0) := (h.set a _).set b _
end Go.Proofs.YtkbinfhclaafhaaGreatDoor
namespace Go.Proofs.YtkbinfhclaafhaaGreatDoor
open Go.RowKit
set_option maxRecDepth 100000 in
set_option maxHeartbeats 8000000 in
theorem reverse_row (w : World) (B g n c cap i j : Nat) (cur : List Int) (hij : i ≤ j) (hjn : j ≤ n) (hn : n ≤ 1000) (h : IRow w B g n c cur) :
  Calls Tryz.prog 100 #[.slice (some ⟨g, i, none⟩) (j - i) cap] w fun e w' => e = .returned (.tuple #[]) ∧ IRow w' B g n c (revL cur i j) ∧ w.grownBy w' (some g) := by
 have HO : Hid (IRow w B g n c cur) := h
 clear h
 obtain ⟨l, hl⟩ : ∃ l, l = j - i := ⟨_, rfl⟩
 rw [← hl]
 have hl1 : l ≤ 1000 := by omega
 have HL : Hid (l = j - i ∧ i ≤ j ∧ j ≤ n) := ⟨hl, hij, hjn⟩
 clear hl hij hjn
 go_enter Tryz.func100, Tryz.ntmps100
 go_wp2
 go_loopg [2, 3] l (fun gk av bv W => ∃ (s : Nat) (z : Int) (cur' : List Int), s + s ≤ l ∧ gk = l - s ∧ av = .int .i64 ((s : Nat) : Int) ∧ bv = .int .i64 z ∧ z = (l : Int) - s - 1 ∧ IRow W B g n c cur' ∧ w.grownBy W (some g) ∧ revL cur' (i + s) (j - s) = revL cur i j)
 case atStart => exact ⟨0, (l : Int) - 1, cur, by omega, by omega, rfl, rfl, by omega, HO.out, World.grownBy.refl _ _, rfl⟩
 case round =>
  clear HO
  obtain ⟨s, z, cur', hs, rfl, rfl, rfl, hz, hO, hG, hrv⟩ := hrel
  have hcl' := hO.len
  have hL := HL.out
  by_cases hlt5 : s + 1 < l - s
  ·obtain ⟨y, rfl⟩ : ∃ y : Nat, z = (y : Int) := ⟨z.toNat, by omega⟩
   have hrv2 := revL_swap cur' (i + s) (j - s) 0 (by omega) (by omega)
   rw [show j - s - 1 = i + y by omega, hrv] at hrv2
   have cx := hO.cell (i + s) (by omega)
   have cy := hO.cell (i + y) (by omega)
   have fx := hO.frozen (i + s)
   have fy := hO.frozen (i + y)
   have hne : i + s ≠ i + y := by omega
   have HO2 : Hid (IRow ((wr.setCell ⟨g, i + s, none⟩ (.int .i64 (cur'.getD (i + y) 0))).setCell ⟨g, i + y, none⟩ (.int .i64 (cur'.getD (i + s) 0))) B g n c (swapL cur' (i + s) (i + y) 0)) := hO.swap (i + s) (i + y)
   have HG2 : Hid (w.grownBy ((wr.setCell ⟨g, i + s, none⟩ (.int .i64 (cur'.getD (i + y) 0))).setCell ⟨g, i + y, none⟩ (.int .i64 (cur'.getD (i + s) 0))) (some g)) := (hG.trans (hO.grown (i + s) _)).trans ((hO.set (i + s) _).grown (i + y) _)
   have HRv : Hid (revL (swapL cur' (i + s) (i + y) 0) (i + (s + 1)) (j - (s + 1)) = revL cur i j) := by
    show _ = _
    rw [show i + (s + 1) = i + s + 1 by omega, show j - (s + 1) = i + y by omega]; exact hrv2
   have HXY : Hid (y = l - s - 1 ∧ s + 1 < l - s) := ⟨by omega, hlt5⟩
   have hxy : (s : Int) < (y : Int) := by omega
   have hxk' : (s : Int) < (l : Int) := by omega
   have hyk' : (y : Int) < (l : Int) := by omega
   have hy1 : (1 : Int) ≤ (y : Int) := by omega
   clear hO hG hrv hrv2 hz hs hlt5 hcl' hL
   generalize cur'.getD (i + s) 0 = ux at *
   generalize cur'.getD (i + y) 0 = uy at *
   go_wp2
   go_region
   all_goals
    go_wp2
    go_roundg (l - (s + 1))
    case measure => have := HXY.out; omega
    case rel => exact ⟨s + 1, (y : Int) - 1, _, by have := HXY.out; omega, rfl, by go_num, rfl, by have := HXY.out; omega, World.ownsRow.drew HO2.out, HG2.out.trans drew_grown, HRv.out⟩
  ·have hxz : ¬ ((s : Nat) : Int) < z := by omega
   have hce : cur' = revL cur i j := by rw [← hrv, revL_none cur' (i + s) (j - s) (by omega) (by omega) (by omega)]
   have HF : Hid (IRow wr B g n c (revL cur i j) ∧ w.grownBy wr (some g)) := by rw [← hce]; exact ⟨hO, hG⟩
   clear hO hG hrv hce hz hcl' hL
   go_wp2
   go_end0
   exact ⟨rfl, HF.out.1, HF.out.2⟩
end Go.Proofs.YtkbinfhclaafhaaGreatDoor
namespace Go.Proofs.YtkbinfhclaafhaaGreatDoor
open Go.RowKit
structure OS (W w : World) (bx bo g n b off cap : Nat) (lv cur : List Int) : Prop where
 row : IRow W w.heap.size g n n cur
 bxh : W.heap[bx]? = some (.cells #[.slice (some ⟨b, off, none⟩) n cap] 31 (0, 0))
 boh : W.heap[bo]? = some (.cells #[.slice (some ⟨g, 0, none⟩) n n] 31 (0, 0))
 lv : IntsAt W b off lv
 hb : Below w.heap.size w W
section
variable {W W' w : World} {bx bo g n b off cap : Nat} {lv cur cur' : List Int}
theorem OS.cx (h : OS W w bx bo g n b off cap lv cur) : W.cell? ⟨bx, 0, none⟩ = some (.slice (some ⟨b, off, none⟩) n cap) := heap_cell h.bxh 0
theorem OS.co (h : OS W w bx bo g n b off cap lv cur) : W.cell? ⟨bo, 0, none⟩ = some (.slice (some ⟨g, 0, none⟩) n n) := heap_cell h.boh 0
theorem OS.below (h : OS W w bx bo g n b off cap lv cur) (hb : Below W.heap.size W W') : OS W' w bx bo g n b off cap lv cur :=
 ⟨own_below h.row hb, heap_keep hb h.bxh, heap_keep hb h.boh, h.lv.below hb, h.hb.trans (hb.mono h.hb.size)⟩
theorem OS.turn (h : OS W w bx bo g n b off cap lv cur) (hr : IRow W' w.heap.size g n n cur') (hg : W.grownBy W' (some g)) (hbw : b < w.heap.size) : OS W' w bx bo g n b off cap lv cur' := by
 obtain ⟨cc, hh⟩ := heap_of_own h.row
 have hgB := (h.row.lt g rfl).1
 have hB : Below w.heap.size w W' := h.hb.grown hg h.hb.size (fun y hy => by cases hy; exact hgB)
 refine ⟨hr, (hg.block bx (heap_lt h.bxh) ?_).trans h.bxh, (hg.block bo (heap_lt h.boh) ?_).trans h.boh, h.lv.grown hg (by omega), hB⟩
 ·intro e; cases e; exact absurd (cells_type h.bxh hh) (by decide)
 ·intro e; cases e; exact absurd (cells_type h.boh hh) (by decide)
end
set_option maxRecDepth 100000 in
set_option maxHeartbeats 4000000 in
theorem order1_any (W w : World) (bx bo g n b off cap tb : Nat) (lv cur : List Int) (v : Int) (h : OS W w bx bo g n b off cap lv cur) (hl : lv.length = n) (ht : W.cell? ⟨tb, 0, none⟩ = some (.int .i64 v)) (i : Nat) (hi : i < n) :
  Calls Tryz.prog 98 #[.int .i64 i, .pointer (some ⟨bx, 0, none⟩), .pointer (some ⟨tb, 0, none⟩)] W fun e W' => e = .returned (.bool (decide (v ≤ lv.getD i 0))) ∧ Below W.heap.size W W' := by
 have cx := h.cx
 have ci := h.lv i (by omega)
 have hi' : (i : Int) < (n : Int) := by omega
 clear h
 generalize lv.getD i 0 = y at *
 go_enter Tryz.func98, Tryz.ntmps98
 go_wp2
 go_region
 all_goals
  go_wp2
  go_ret
  exact ⟨rfl, (Below.refl _ _).drew⟩
set_option maxRecDepth 100000 in
set_option maxHeartbeats 4000000 in
theorem order2_any (W w : World) (bx bo g n b off cap : Nat) (lv cur : List Int) (h : OS W w bx bo g n b off cap lv cur) (hn : n ≤ 1000) (hbw : b < w.heap.size) (i j : Nat) (hij : i < j) (hj : j ≤ n) :
  Calls Tryz.prog 99 #[.int .i64 i, .int .i64 j, .pointer (some ⟨bo, 0, none⟩)] W fun e W' => e = .returned (.tuple #[]) ∧ OS W' w bx bo g n b off cap lv (revL cur i j) ∧ W.grownBy W' (some g) := by
 have co := h.co
 have HR : Hid (∀ cp, Calls Tryz.prog 100 #[.slice (some ⟨g, i, none⟩) (j - i) cp] W fun e w' => e = .returned (.tuple #[]) ∧ IRow w' w.heap.size g n n (revL cur i j) ∧ W.grownBy w' (some g)) := fun cp => reverse_row W w.heap.size g n n cp i j cur (by omega) hj hn h.row
 have HO : Hid (OS W w bx bo g n b off cap lv cur) := h
 have h1 : (i : Int) ≤ (j : Int) := by omega
 have h2 : (j : Int) ≤ (n : Int) := by omega
 have h3 : (i : Int) ≤ (n : Int) := by omega
 have h4 : ¬ i = n := by omega
 have h5 : ¬ n = i := by omega
 clear h
 go_enter Tryz.func99, Tryz.ntmps99
 go_wp2_with fail
 refine (HR.out _).mono ?_
 rintro ev W2 ⟨rfl, hR2, hg2⟩
 have H2 : Hid (OS W2 w bx bo g n b off cap lv (revL cur i j) ∧ W.grownBy W2 (some g)) := ⟨HO.out.turn hR2 hg2 hbw, hg2⟩
 clear hR2 hg2 HR
 go_wp2
 go_end0
 exact ⟨rfl, H2.out.1, H2.out.2⟩
end Go.Proofs.YtkbinfhclaafhaaGreatDoor
namespace Go.Proofs.YtkbinfhclaafhaaGreatDoor
open Go.RowKit
theorem OS.set {W w : World} {bx bo g n b off cap : Nat} {lv cur : List Int} (h : OS W w bx bo g n b off cap lv cur) (hbw : b < w.heap.size) (k : Nat) (a : Int) : OS (W.setCell ⟨g, k, none⟩ (.int .i64 a)) w bx bo g n b off cap lv (cur.set k a) := h.turn (h.row.set k a) (h.row.grown k a) hbw
theorem idz_set (n k : Nat) (hk : k < n) : (idL k ++ List.replicate (n - k) 0).set k (k : Int) = idL (k + 1) ++ List.replicate (n - (k + 1)) 0 := by
 rw [idL_succ, List.set_append_right _ _ (by rw [idL_length]; exact Nat.le_refl _), idL_length, Nat.sub_self, show n - k = (n - (k + 1)) + 1 by omega, List.replicate_succ]
 simp
def JO (w : World) (bx bo g n b off cap tb : Nat) (lv : List Int) (v : Int) (bs : List Bool) (A : List Int) (a : Nat) (cur : List Int) (W : World) : Prop :=
 OS W w bx bo g n b off cap lv cur ∧ W.heap[tb]? = some (.cells #[.int .i64 v] 3 (0, 0)) ∧ TurnTo bs A (min a n) cur
theorem order_law (w : World) (bx bo g n b off cap tb : Nat) (lv : List Int) (v : Int) (A : List Int) (hn : n ≤ 1000) (hbw : b < w.heap.size) (hl : lv.length = n) (hA : A.length = n) (htb : tb ≠ g) :
  RowLaw n 98 99 #[.pointer (some ⟨bx, 0, none⟩), .pointer (some ⟨tb, 0, none⟩)] #[.pointer (some ⟨bo, 0, none⟩)] (JO w bx bo g n b off cap tb lv v (mask v lv) A) (fun _ i => decide (v ≤ lv.getD i 0)) where
 asks x a W i hJ _ hi := by
  obtain ⟨hO, hT, hU⟩ := hJ
  refine (order1_any W w bx bo g n b off cap tb lv x v hO hl (heap_cell hT 0) i hi).mono ?_
  rintro e W' ⟨rfl, hb⟩
  exact ⟨rfl, hO.below hb, heap_keep hb hT, hU⟩
 skip x a W hJ ha hb := by
  obtain ⟨hO, hT, hU⟩ := hJ
  rw [Nat.min_eq_left (by omega)] at hU
  refine ⟨x, hO, hT, ?_⟩
  rw [Nat.min_eq_left (by omega)]
  exact hU.skip (by rw [mask_length, hl, hA]) (by omega) (by rw [mask_get _ _ _ (by omega), hb])
 tell x a c W hJ hac hcn hall hend := by
  obtain ⟨hO, hT, hU⟩ := hJ
  rw [Nat.min_eq_left (by omega)] at hU
  refine (order2_any W w bx bo g n b off cap lv x hO hn hbw a c hac hcn).mono ?_
  rintro e W' ⟨rfl, hO', hg'⟩
  refine ⟨rfl, _, hO', (hg'.block tb (heap_lt hT) (fun e => htb (Option.some.inj e))).trans hT, ?_⟩
  have h1 := hU.turn (j := c) (by rw [mask_length, hl, hA]) (by omega) (by omega) (fun q h1 h2 => by rw [mask_get _ _ _ (by omega), hall q h1 h2]) (fun h => by rw [mask_get _ _ _ (by omega), hend (by omega)])
  by_cases hc : c < n
  ·rw [Nat.min_eq_left (by omega)]
   exact h1.skip (by rw [mask_length, hl, hA]) (by omega) (by rw [mask_get _ _ _ (by omega), hend hc])
  ·rw [Nat.min_eq_right (by omega)]
   have : c = n := by omega
   rw [← this]; exact h1
set_option maxRecDepth 100000 in
set_option maxHeartbeats 16000000 in
theorem bOrder_row (lv : List Int) (b off cap n : Nat) (w : World) (hl : lv.length = n) (hn : n ≤ 1000) (hbw : b < w.heap.size) (hc : IntsAt w b off lv) (hlv : ∀ l ∈ lv, 0 ≤ l ∧ l ≤ 126) :
  Calls Tryz.prog 59 #[.slice (some ⟨b, off, none⟩) n cap] w fun e w' => ∃ g, e = .returned (.slice (some ⟨g, 0, none⟩) n n) ∧ RowAt w' w.heap.size 3 g n (iv (ordP lv)) ∧ Below w.heap.size w w' := by
 obtain ⟨R, hR⟩ : ∃ R, R = ordP lv := ⟨_, rfl⟩
 have HR0 : Hid (R = ordP lv) := hR
 rw [← hR]
 clear hR
 have hmk := run_make_row' (P := Tryz.prog) 31 3 (.int .i64 0) 8 Tryz.underlying31 Tryz.infoI8 rfl .i64 .i64 n (by omega) (by omega)
 have hmf : ∀ (fn : Fn) (first cap : Array Value) (w : World), (Instr.makeFunc fn first cap).run Tryz.prog w = .ok (.func fn first cap) w := fun _ _ _ _ => rfl
 have hw0 : Below w.heap.size w (((w.alloc (.cells #[.slice (some ⟨b, off, none⟩) n cap] 31)).alloc (.cells (madeCells #[.int .i64 0] n) 3)).alloc (.cells #[.slice (some ⟨w.heap.size + 1, 0, none⟩) n n] 31)) := (((Below.refl _ _).alloc (Nat.le_refl _) _).alloc (by simp) _).alloc (by simp; omega) _
 have HO0 : Hid (OS (((w.alloc (.cells #[.slice (some ⟨b, off, none⟩) n cap] 31)).alloc (.cells (madeCells #[.int .i64 0] n) 3)).alloc (.cells #[.slice (some ⟨w.heap.size + 1, 0, none⟩) n n] 31)) w w.heap.size (w.heap.size + 1 + 1) (w.heap.size + 1) n b off cap lv (idL 0 ++ List.replicate (n - 0) 0)) := by
  have z1 : (w.alloc (.cells #[.slice (some ⟨b, off, none⟩) n cap] 31)).heap.size = w.heap.size + 1 := by simp
  have z2 : ((w.alloc (.cells #[.slice (some ⟨b, off, none⟩) n cap] 31)).alloc (.cells (madeCells #[.int .i64 0] n) 3)).heap.size = w.heap.size + 1 + 1 := by simp
  refine ⟨?_, ?_, ?_, hc.below hw0, hw0⟩
  ·have := RowAt.made (w := w.alloc (.cells #[.slice (some ⟨b, off, none⟩) n cap] 31)) (B := w.heap.size) (n := n) (e := 3) (z := .int .i64 0) (by simp) (by omega)
   rw [z1] at this
   have e : iv (idL 0 ++ List.replicate (n - 0) 0) = List.replicate n (.int .i64 0) := by simp [iv, idL]
   show World.ownsRow _ _ _ _ _ _ _
   rw [e]
   exact World.ownsRow.alloc this _
  ·refine heap_keep ((Below.refl _ _).alloc (Nat.le_refl _) _) (heap_keep ((Below.refl _ _).alloc (Nat.le_refl _) _) ?_)
   exact Array.getElem?_push_size
  ·rw [← z2]; exact Array.getElem?_push_size
 have HL : Hid (lv.length = n) := hl
 have HV : Hid (∀ l ∈ lv, 0 ≤ l ∧ l ≤ 126) := hlv
 have HSd : Hid (∀ (l : Int) (W : World), 0 ≤ l → Calls Tryz.prog 96 #[.int .i64 l] W fun e w' => e = .returned (.int .i64 (l % 2)) ∧ w' = W) := fun l W h => sideOf_any l W h
 clear hl hlv hw0 hc
 obtain ⟨bx, hbx⟩ : ∃ bx, bx = w.heap.size := ⟨_, rfl⟩
 obtain ⟨g, hg⟩ : ∃ g, g = w.heap.size + 1 := ⟨_, rfl⟩
 obtain ⟨bo, hbo⟩ : ∃ bo, bo = w.heap.size + 1 + 1 := ⟨_, rfl⟩
 go_enter Tryz.func59, Tryz.ntmps59
 go_wp2
 generalize hW0 : (((w.alloc (.cells #[.slice (some ⟨b, off, none⟩) n cap] 31)).alloc (.cells (madeCells #[.int .i64 0] n) 3)).alloc (.cells #[.slice (some ⟨w.heap.size + 1, 0, none⟩) n n] 31)) = W0 at *
 have HO1 : Hid (OS W0 w bx bo g n b off cap lv (idL 0 ++ List.replicate (n - 0) 0)) := by rw [hbx, hbo, hg]; exact HO0.out
 rw [← hbo, ← hg, ← hbx]
 have HGx : Hid (w.heap.size ≤ g) := by show _ ≤ _; omega
 clear hW0 HO0 hbx hg hbo hmk
 go_loopg [4, 5, 14] n (fun gk hv ov iv' W => ∃ (k : Nat) (hi lo : Int), k ≤ n ∧ gk = n - k ∧ iv' = .int .i64 k ∧ hv = .int .i64 hi ∧ ov = .int .i64 lo ∧ hi = topL (lv.take k) ∧ lo = lowL (lv.take k) ∧ OS W w bx bo g n b off cap lv (idL k ++ List.replicate (n - k) 0))
 case atStart => exact ⟨0, 0, 127, by omega, rfl, rfl, rfl, rfl, by simp [topL], by simp [lowL], HO1.out⟩
 case round =>
  clear HO1
  obtain ⟨k, hi, lo, hk, rfl, rfl, rfl, rfl, hhi, hlo, hO⟩ := hrel
  by_cases hlt : k < n
  ·have hkl : k < lv.length := by rw [HL.out]; exact hlt
   have cx := hO.cx
   have co := hO.co
   have cl := hO.lv k hkl
   have cg := hO.row.cell k hlt
   have fg := hO.row.frozen k
   have ht := topL_succ lv k hkl
   have hw := lowL_succ lv k hkl
   have hxb := HV.out _ (getD_mem (d := 0) hkl)
   rw [← hhi] at ht
   rw [← hlo] at hw
   have hib := topL_bd (lv := lv.take k) (fun l h => by have := (HV.out l (List.mem_of_mem_take h)).2; omega)
   have lob := lowL_bd (lv := lv.take k) (fun l h => (HV.out l (List.mem_of_mem_take h)).1)
   rw [← hhi] at hib
   rw [← hlo] at lob
   obtain ⟨x, hx⟩ : ∃ x, x = lv.getD k 0 := ⟨_, rfl⟩
   rw [← hx] at cl ht hw hxb
   have HO2 : Hid (OS (wr.setCell ⟨g, k, none⟩ (.int .i64 (k : Int))) w bx bo g n b off cap lv (idL (k + 1) ++ List.replicate (n - (k + 1)) 0)) := by
    have := hO.set hbw k (k : Int)
    rw [idz_set n k hlt] at this
    exact this
   have HT : Hid (topL (lv.take (k + 1)) = max hi x) := ht
   have HW : Hid (lowL (lv.take (k + 1)) = if x % 2 = 1 then min lo x else lo) := hw
   have hkn : (k : Int) < (n : Int) := by omega
   obtain ⟨x0, x1⟩ := hxb
   have HSx : Hid (∀ W, Calls Tryz.prog 96 #[.int .i64 x] W fun e w' => e = .returned (.int .i64 (x % 2)) ∧ w' = W) := fun W => HSd.out x W x0
   have h2 : x % 2 = 0 ∨ x % 2 = 1 := by omega
   have HX2 : Hid (x % 2 = 0 ∨ x % 2 = 1) := h2
   obtain ⟨par, hpar⟩ : ∃ par, par = x % 2 := ⟨_, rfl⟩
   rw [← hpar] at HSx HW HX2
   generalize (idL k ++ List.replicate (n - k) 0).getD k 0 = old at *
   clear hO ht hw hx hhi hlo hkl h2 hpar
   have HM : Hid (max hi x = topL (lv.take (k + 1))) := HT.out.symm
   rcases HX2.out with hp0 | hp1
   ·have HN : Hid (lo = lowL (lv.take (k + 1))) := by show lo = _; rw [HW.out, if_neg (by omega)]
    subst hp0
    go_wp2_with fail
    refine (HSx.out _).mono ?_
    rintro ev wx ⟨rfl, hwx⟩
    have hwx' := hwx.symm
    subst hwx'
    go_wp2
    go_roundg (n - (k + 1))
    case measure => omega
    case rel => exact ⟨k + 1, max hi x, lo, by omega, rfl, by go_num, rfl, rfl, HM.out, HN.out, HO2.out⟩
   ·have HN : Hid (min lo x = lowL (lv.take (k + 1))) := by show min lo x = _; rw [HW.out, if_pos hp1]
    subst hp1
    go_wp2_with fail
    refine (HSx.out _).mono ?_
    rintro ev wx ⟨rfl, hwx⟩
    have hwx' := hwx.symm
    subst hwx'
    go_wp2
    go_roundg (n - (k + 1))
    case measure => omega
    case rel => exact ⟨k + 1, max hi x, min lo x, by omega, rfl, by go_num, rfl, rfl, HM.out, HN.out, HO2.out⟩
  ·obtain rfl : k = n := by omega
   have hkn : ¬ (k : Int) < (k : Int) := by omega
   have e1 : lv.take k = lv := List.take_of_length_le (by rw [HL.out]; exact Nat.le_refl _)
   rw [e1] at hhi hlo
   have htb := topL_bd (lv := lv) (fun l h => by have := (HV.out l h).2; omega)
   have hlb := lowL_bd (lv := lv) (fun l h => (HV.out l h).1)
   rw [← hhi] at htb
   rw [← hlo] at hlb
   have HO2 : Hid (OS wr w bx bo g k b off cap lv (turnsF lv 0 hi (idL k))) := by
    have := hO
    rw [Nat.sub_self, List.replicate_zero, List.append_nil] at this
    exact this
   have HR : Hid (R = turnsF lv (hi - lo + 1).toNat hi (idL k)) := by show _ = _; rw [HR0.out, ordP, hhi, hlo, HL.out]
   clear hO hhi hlo e1
   obtain ⟨tb0, htb0⟩ : ∃ tb0, tb0 = wr.heap.size := ⟨_, rfl⟩
   have HO3 : Hid (OS (wr.alloc (.cells #[.int .i64 hi] 3)) w bx bo g k b off cap lv (turnsF lv 0 hi (idL k)) ∧ (wr.alloc (.cells #[.int .i64 hi] 3)).heap[tb0]? = some (.cells #[.int .i64 (hi - (0 : Nat))] 3 (0, 0)) ∧ tb0 ≠ g) := by
    refine ⟨HO2.out.below ((Below.refl _ _).alloc (Nat.le_refl _) _), by rw [htb0, show hi - ((0 : Nat) : Int) = hi by omega]; exact Array.getElem?_push_size, ?_⟩
    have := (HO2.out.row.lt g rfl).2
    omega
   go_wp2
   generalize wr.alloc (.cells #[.int .i64 hi] 3) = W1 at *
   rw [← htb0]
   clear htb0 HO2
   go_loopg [8] (hi - lo + 1).toNat (fun gk tv W => ∃ (m tb : Nat), m ≤ (hi - lo + 1).toNat ∧ gk = (hi - lo + 1).toNat - m ∧ tv = .pointer (some ⟨tb, 0, none⟩) ∧ OS W w bx bo g k b off cap lv (turnsF lv m hi (idL k)) ∧ W.heap[tb]? = some (.cells #[.int .i64 (hi - m)] 3 (0, 0)) ∧ tb ≠ g)
   case atStart => exact ⟨0, tb0, by omega, rfl, rfl, HO3.out.1, HO3.out.2.1, HO3.out.2.2⟩
   case round =>
    clear HO3
    obtain ⟨m, tb, hm, rfl, rfl, hO, hT, htg⟩ := hrel
    have ct := heap_cell hT 0
    by_cases hlt : m < (hi - lo + 1).toNat
    ·have hvl : lo ≤ hi - (m : Int) := by omega
     have hal : (turnsF lv m hi (idL k)).length = k := (turnsF_length lv m hi _ (by rw [idL_length, HL.out])).trans HL.out
     have HEach : Hid (Calls Tryz.prog 97 #[.int .i64 k, .func (.func 98) #[] #[.pointer (some ⟨bx, 0, none⟩), .pointer (some ⟨tb, 0, none⟩)], .func (.func 99) #[] #[.pointer (some ⟨bo, 0, none⟩)]] wr fun e w' => e = .returned (.tuple #[]) ∧ ∃ q cur, k ≤ q ∧ JO w bx bo g k b off cap tb lv (hi - m) (mask (hi - m) lv) (turnsF lv m hi (idL k)) q cur w') :=
      eachRow_any k _ _ _ _ _ _ hn (order_law w bx bo g k b off cap tb lv (hi - m) _ hn hbw HL.out hal htg) (callFunc_enter Tryz.func98 (by kernel_rfl) (by kernel_rfl)) (callFunc_enter Tryz.func99 (by kernel_rfl) (by kernel_rfl)) _ wr ⟨hO, hT, by rw [Nat.zero_min]; exact TurnTo.start _ _⟩
     have cx := hO.cx
     have HAl : Hid ((mask (hi - m) lv).length = (turnsF lv m hi (idL k)).length ∧ (turnsF lv m hi (idL k)).length = k) := ⟨by rw [mask_length, HL.out, hal], hal⟩
     have HNx : Hid (turnsF lv (m + 1) hi (idL k) = turnL (mask (hi - m) lv) (turnsF lv m hi (idL k)) []) := turnsF_succ _ _ _ _
     generalize turnsF lv m hi (idL k) = A at *
     obtain ⟨v, hv⟩ : ∃ v, v = hi - (m : Int) := ⟨_, rfl⟩
     have HVe : Hid (v = hi - (m : Int)) := hv
     have hv0 : 0 ≤ v := by omega
     have hv1 : v ≤ 1000 := by omega
     rw [← hv] at ct hvl HEach HAl HNx
     clear hO hT hal hv
     go_wp2_with fail
     refine HEach.out.mono ?_
     rintro ev W2 ⟨rfl, q, cur, hq, hO2, hT2, hU2⟩
     rw [Nat.min_eq_right hq] at hU2
     have hce := hU2.stop HAl.out.1 (by rw [HAl.out.2]; exact Nat.le_refl _)
     rw [hce, ← HNx.out] at hO2
     have ct2 := heap_cell hT2 0
     have HO2 : Hid (OS W2 w bx bo g k b off cap lv (turnsF lv (m + 1) hi (idL k))) := hO2
     have HG2 : Hid (g < W2.heap.size) := (hO2.row.lt g rfl).2
     clear HEach hO2 hT2 hU2 hce cx ct hq
     go_wp2
     go_roundg ((hi - lo + 1).toNat - (m + 1))
     case measure => omega
     case rel => exact ⟨m + 1, W2.heap.size, by omega, rfl, rfl, HO2.out.below ((Below.refl _ _).alloc (Nat.le_refl _) _), by rw [show hi - ((m + 1 : Nat) : Int) = v - 1 by have := HVe.out; omega]; exact Array.getElem?_push_size, by have := HG2.out; omega⟩
    ·have hvl : ¬ lo ≤ hi - (m : Int) := by omega
     obtain rfl : m = (hi - lo + 1).toNat := by omega
     have co := hO.co
     have HF : Hid (RowAt wr w.heap.size 3 g k (iv R) ∧ Below w.heap.size w wr) := ⟨by rw [HR.out]; exact hO.row, hO.hb⟩
     clear hO hT
     generalize hi - (((hi - lo + 1).toNat : Nat) : Int) = v at *
     generalize turnsF lv (hi - lo + 1).toNat hi (idL k) = A at *
     go_wp2
     go_ret
     exact ⟨g, rfl, HF.out.1, HF.out.2⟩
end Go.Proofs.YtkbinfhclaafhaaGreatDoor
namespace Go.Proofs.YtkbinfhclaafhaaGreatDoor
def OkP (para : Int) (st : List Ent) : Prop := ∀ e ∈ st, para ≤ e.l
theorem OkP.app {para : Int} {st : List Ent} {e : Ent} (h : OkP para st) (he : para ≤ e.l) : OkP para (st ++ [e]) := fun y hy => by
 rcases List.mem_append.1 hy with hy | hy
 ·exact h y hy
 ·rw [List.mem_singleton.1 hy]; exact he
theorem OkP.sub {para : Int} {st st' : List Ent} (h : OkP para st) (hs : ∀ e ∈ st', e ∈ st) : OkP para st' := fun e he => h e (hs e he)
theorem OkP.pre {para : Int} {x : XS} (h : OkP para x.st) (c : Int) : OkP para (xPre x c).st := by
 unfold xPre
 split
 ·unfold endX
  split
  ·exact h
  ·split
   ·exact h
   ·exact h.sub (popIso_mem _)
 ·exact h
theorem OkP.post {para : Int} {x : XS} (h : OkP para x.st) (hne : x.st ≠ []) (cs : List Int) (i : Nat) (c : Int) : OkP para (xPost cs i x c).st := by
 have ht : para ≤ (topE x.st).l := h _ (topE_mem hne)
 have hn : ∀ odd, para ≤ nextL (topE x.st).l odd := fun odd => by have := nextL_ge (topE x.st).l odd; omega
 have hb : ∀ odd, OkP para (beginX x odd).st := fun odd => by
  unfold beginX
  simp only
  split
  ·exact h.app (hn _)
  ·exact h
 unfold xPost
 split
 ·unfold embedX
  simp only
  generalize (if c = 15 then (0 : Int) else if c = 16 then 1 else -1) = o at *
  generalize hq : nextL (topE x.st).l _ = n
  have hqn : para ≤ n := by rw [← hq]; exact hn _
  split
  ·exact h.app hqn
  ·split <;> exact h
 ·split
  ·exact hb _
  ·split
   ·exact hb _
   ·split
    ·exact hb _
    ·split
     ·unfold popX
      split
      ·exact h
      ·split
       ·exact h
       ·split
        ·exact h.sub fun e he => List.dropLast_subset _ he
        ·exact h
     ·exact h
theorem xAt_p (cs : List Int) (para : Int) (hp : 0 ≤ para ∧ para ≤ 125) : ∀ i, OkP para (xAt cs para i).st
 | 0 => by intro e he; rw [xAt] at he; rw [List.mem_singleton.1 he]; exact Int.le_refl _
 | i + 1 => by rw [xAt]; exact ((xAt_p cs para hp i).pre _).post ((xAt_ok cs para hp i).pre _).ne cs i _
theorem xTop_p (cs : List Int) (para : Int) (hp : 0 ≤ para ∧ para ≤ 125) (i : Nat) : para ≤ (xTop cs para i).l :=
 ((xAt_p cs para hp i).pre _) _ (topE_mem ((xAt_ok cs para hp i).pre _).ne)
theorem finL_all {P : Int → Prop} {para : Int} (hp : P para) : ∀ (cs os : List Int) (prev : Int), P prev → (∀ o ∈ os, P o) → ∀ x ∈ finL para prev cs os, P x
 | [], _, _, _, _, x, hx => by cases hx
 | _ :: _, [], _, _, _, x, hx => by cases hx
 | c :: cs, o :: os, prev, hv, ho, x, hx => by
  have h1 : P (if resetB c cs = true then para else if leftB c = false then prev else o) := by
   split
   ·exact hp
   ·split
    ·exact hv
    ·exact ho o (by simp)
  rw [finL] at hx
  rcases List.mem_cons.1 hx with rfl | hx
  ·exact h1
  ·exact finL_all hp cs os _ h1 (fun y hy => ho y (by simp [hy])) x hx
theorem implS_bd {c l : Int} (h0 : 0 ≤ l) (h : l ≤ 125) : l ≤ implS c l ∧ implS c l ≤ 126 := by
 unfold implS
 split
 ·split
  ·omega
  ·split <;> omega
 ·split <;> omega
theorem levels_bd {cs : List Int} (hcs : ∀ c ∈ cs, 0 ≤ c ∧ c ≤ 21) (rs : List Int) (d : Int) (hp : 0 ≤ paraL cs d ∧ paraL cs d ≤ 125) : ∀ x ∈ levelsL rs cs d, paraL cs d ≤ x ∧ x ≤ 126 := by
 unfold levelsL
 generalize paraL cs d = para at *
 refine finL_all (P := fun x => para ≤ x ∧ x ≤ 126) (by omega) _ _ _ (by omega) ?_
 refine set_all_ne (P := fun x => para ≤ x ∧ x ≤ 126) _ _ (fun x hx => ?_) fun o ho => ?_
 ·obtain ⟨s, hs, hx⟩ := List.mem_flatMap.1 hx
  obtain ⟨_, _, _, _, a5⟩ := seq_facts hcs hp hs
  obtain ⟨b1, b2, _⟩ := trip_mem hx
  obtain ⟨h1, h2⟩ := a5 _ b1
  have h3 : (xLevels cs para).getD x.1 0 = (xTop cs para x.1).l := by rw [xLevels, range_getD _ _ _ _ h1]
  have h4 := xTop_l cs para hp x.1
  have h5 := xTop_p cs para hp x.1
  have := implS_bd (c := x.2.2) (l := x.2.1) (by omega) (by omega)
  omega
 ·obtain ⟨i, _, rfl⟩ := List.mem_map.1 (show o ∈ (List.range cs.length).map fun i => (xTop cs para i).l from ho)
  have := xTop_l cs para hp i
  have := xTop_p cs para hp i
  omega
theorem ordR_len (lv : List Int) : (ordR lv).length = lv.length := turnsF_length _ _ _ _ (idL_length _)
theorem ordR_nil : ordR [] = [] := rfl
theorem ordR_flat {lv : List Int} (h : ∀ l ∈ lv, l = 0) : ordR lv = idL lv.length := by
 have ht : topL lv = 0 := by
  obtain ⟨_, _, t3⟩ := foldl_max_ge lv 0
  rcases t3 with e | e
  ·exact e
  ·exact h _ e
 rw [ordR, ht]; rfl
theorem turnL_all {α : Type} (xs : List α) : turnL (List.replicate xs.length true) xs [] = xs.reverse := by
 have := turnL_trues [] [] xs []
 simp only [List.append_nil] at this
 rw [this]; rfl
theorem ordR_one {lv : List Int} (h : ∀ l ∈ lv, l = 1) (hne : lv ≠ []) : ordR lv = (idL lv.length).reverse := by
 have ht : topL lv = 1 := by
  obtain ⟨t1, t2, t3⟩ := foldl_max_ge lv 0
  have hm := List.exists_mem_of_ne_nil lv hne
  obtain ⟨x, hx⟩ := hm
  have h1 := t2 x hx
  have h2 := h x hx
  change x ≤ topL lv at h1
  rcases t3 with e | e
  ·change topL lv = 0 at e; omega
  ·exact h _ e
 have hm : mask 1 lv = List.replicate (idL lv.length).length true := by
  rw [idL_length]
  unfold mask
  rw [← List.map_const']
  exact List.map_congr_left fun l hl => by rw [h l hl]; rfl
 rw [ordR, ht]
 show turnL (mask 1 lv) (idL lv.length) [] = _
 rw [hm, turnL_all]
theorem ordR_perm (lv : List Int) : (ordR lv).Perm (idL lv.length) := turnsF_perm _ _ _ _ (idL_length _)
end Go.Proofs.YtkbinfhclaafhaaGreatDoor
namespace Go.Proofs.YtkbinfhclaafhaaGreatDoor
open Go.RowKit
def lineO (s : ByteArray) (d : Int) : List Int := ordR (lineL s d)
theorem lineO_len (s : ByteArray) (d : Int) : (lineO s d).length = (lineL s d).length := ordR_len _
theorem lineL_bd (s : ByteArray) (d : Int) : ∀ x ∈ lineL s d, 0 ≤ x ∧ x ≤ 126 := by
 intro x hx
 unfold lineL at hx
 split at hx
 ·have hp : 0 ≤ paraL ((askRunes s).map cls) d ∧ paraL ((askRunes s).map cls) d ≤ 125 := by rcases paraL_01 ((askRunes s).map cls) d with h | h <;> omega
  have := levels_bd (cs := (askRunes s).map cls) (fun c hc => by obtain ⟨r, _, rfl⟩ := List.mem_map.1 hc; exact cls_bd r) (askRunes s) d hp x hx
  omega
 ·cases hx
theorem guardOrder_err (s : ByteArray) (d : Int) (w : World) (aL aT aC : Addr) (hs : s.size ≤ 9223372036854775807) (hE : Env w aL aT aC) (he : askErr s = 1 ∨ askErr s = 2) :
  Calls Tryz.prog 37 #[.string s, .int .i64 d] w fun e w' => e = .returned (.tuple #[.slice none 0 0, errV (askErr s) aL aT aC]) ∧ Below w.heap.size w w' := by
 have HC : Hid (Calls Tryz.prog 35 #[.string s, .int .i64 d] w fun e w' => e = .returned (.tuple #[.slice none 0 0, errV (askErr s) aL aT aC]) ∧ Below w.heap.size w w') := guardLevels_err s d w aL aT aC hs hE he
 obtain ⟨a, ha⟩ : ∃ a, errV (askErr s) aL aT aC = .iface 354 (.pointer (some a)) := by
  rcases he with he | he <;> rw [he]
  ·exact ⟨aL, rfl⟩
  ·exact ⟨aT, rfl⟩
 rw [ha] at HC ⊢
 clear ha he hE
 go_enter Tryz.func37, Tryz.ntmps37
 go_wp2_with fail
 refine HC.out.mono ?_
 rintro e w1 ⟨rfl, hb⟩
 go_wp2
 go_ret2
 exact ⟨rfl, hb⟩
set_option maxHeartbeats 2000000 in
theorem guardOrder_ok (s : ByteArray) (d : Int) (w : World) (aL aT aC : Addr) (hs : s.size ≤ 9223372036854775807) (hE : Env w aL aT aC) (hB : Br w) (he : askErr s = 0) :
  Calls Tryz.prog 37 #[.string s, .int .i64 d] w fun e w' => ∃ v, e = .returned (.tuple #[v, .nilIface]) ∧ w'.ownsRow w.heap.size 3 1 v (lineO s d).length (iv (lineO s d)) ∧ Below w.heap.size w w' := by
 have hle := lineQ_len s d
 have hbd := lineL_bd s d
 have HO : Hid (ordP (lineL s d) = lineO s d) := ord_eq hbd
 have HC : Hid (Calls Tryz.prog 35 #[.string s, .int .i64 d] w fun e w' => ∃ g, e = .returned (.tuple #[.slice (some ⟨g, 0, none⟩) (lineL s d).length (lineL s d).length, .nilIface]) ∧ RowAt w' w.heap.size 3 g (lineL s d).length (iv (lineL s d)) ∧ Below w.heap.size w w') := by
  refine (guardLevels_any s d w aL aT aC hs hE hB).mono ?_
  rintro e w' ⟨v, rfl, ho, _, hg, hb⟩
  obtain ⟨g, rfl⟩ := hg he
  exact ⟨g, by rw [he]; rfl, ho, hb⟩
 have HBd : Hid _ := hbd
 obtain ⟨OV, hOV⟩ : ∃ OV, OV = lineO s d := ⟨_, rfl⟩
 have HOl : Hid (OV.length = (lineL s d).length) := by show _ = _; rw [hOV, lineO_len]
 rw [← hOV] at HO ⊢
 clear hOV hbd he hE hB
 generalize lineL s d = LV at *
 go_enter Tryz.func37, Tryz.ntmps37
 go_wp2_with fail
 refine HC.out.mono ?_
 rintro e w1 ⟨g, rfl, hr1, hb1⟩
 have HB1 : Hid (Below w.heap.size w w1) := hb1
 have HOr : Hid (Calls Tryz.prog 59 #[.slice (some ⟨g, 0, none⟩) LV.length LV.length] w1 fun e w' => ∃ g, e = .returned (.slice (some ⟨g, 0, none⟩) LV.length LV.length) ∧ RowAt w' w1.heap.size 3 g LV.length (iv OV) ∧ Below w1.heap.size w1 w') := by
  rw [← HO.out]
  exact bOrder_row LV g 0 LV.length LV.length w1 rfl (by omega) (hr1.lt g rfl).2 (fun k hk => by rw [Nat.zero_add]; exact own_icell hr1 k hk) HBd.out
 clear hb1 hr1 HC
 generalize LV.length = n at *
 go_wp2_with fail
 refine HOr.out.mono ?_
 rintro e w2 ⟨g2, rfl, hr2, hb2⟩
 have H2 : Hid (w2.ownsRow w.heap.size 3 1 (.slice (some ⟨g2, 0, none⟩) n n) OV.length (iv OV) ∧ Below w.heap.size w w2) := ⟨by rw [HOl.out]; exact own_lowB hr2 HB1.out.size, HB1.out.trans (hb2.mono HB1.out.size)⟩
 clear hr2 hb2 HOr HB1
 go_wp2
 go_ret2
 exact ⟨_, rfl, H2.out.1, H2.out.2⟩
theorem guardOrder_any (s : ByteArray) (d : Int) (w : World) (aL aT aC : Addr) (hs : s.size ≤ 9223372036854775807) (hE : Env w aL aT aC) (hB : Br w) :
  Calls Tryz.prog 37 #[.string s, .int .i64 d] w fun e w' => ∃ v, e = .returned (.tuple #[v, errV (askErr s) aL aT aC]) ∧ w'.ownsRow w.heap.size 3 1 v (lineO s d).length (iv (lineO s d)) ∧ (askErr s ≠ 0 → v = .slice none 0 0) ∧ Below w.heap.size w w' := by
 by_cases h0 : askErr s = 0
 ·refine (guardOrder_ok s d w aL aT aC hs hE hB h0).mono ?_
  rintro e w' ⟨v, rfl, ho, hb⟩
  exact ⟨v, by rw [h0]; rfl, ho, fun h => absurd h0 h, hb⟩
 ·refine (guardOrder_err s d w aL aT aC hs hE (by have := askErr_cases s; omega)).mono ?_
  rintro e w' ⟨rfl, hb⟩
  refine ⟨_, rfl, ?_, fun _ => rfl, hb⟩
  have : lineO s d = [] := by rw [lineO, lineL, if_neg h0, ordR_nil]
  rw [this]
  exact World.ownsRow_nil _ _ _ _
set_option maxHeartbeats 2000000 in
theorem plainOrder_any (s : ByteArray) (d : Int) (w : World) (aL aT aC : Addr) (hs : s.size ≤ 9223372036854775807) (hE : Env w aL aT aC) (hBr : Br w) :
  Calls Tryz.prog 20 #[.string s, .int .i64 d] w fun e w' => ∃ v, e = .returned (.tuple #[v, faultV (askErr s)]) ∧ w'.ownsRow w.heap.size 3 1 v (lineO s d).length (iv (lineO s d)) ∧ (askErr s ≠ 0 → v = .slice none 0 0) ∧ Below w.heap.size w w' := by
 have HE : Hid (Env w aL aT aC) := hE
 have HBr : Hid (Br w) := hBr
 have hcs := askErr_cases s
 have HG : Hid (∀ W, Below w.heap.size w W → Calls Tryz.prog 37 #[.string s, .int .i64 d] W fun e w' => ∃ v, e = .returned (.tuple #[v, errV (askErr s) aL aT aC]) ∧ w'.ownsRow W.heap.size 3 1 v (lineO s d).length (iv (lineO s d)) ∧ (askErr s ≠ 0 → v = .slice none 0 0) ∧ Below W.heap.size W w') := fun W hW => guardOrder_any s d W aL aT aC hs (HE.out.below hW) (HBr.out.below hW)
 clear hE hBr
 generalize lineO s d = LV at *
 go_enter Tryz.func20, Tryz.ntmps20
 go_wp2_with fail
 have hb0 : ∀ o : Obj, Below w.heap.size w (w.alloc o) := fun o => (Below.refl _ _).alloc (Nat.le_refl _) o
 refine (HG.out _ (hb0 _)).mono ?_
 rintro e w1 ⟨v, rfl, hsl, hnil, hb1⟩
 have hB1 : Below w.heap.size w w1 := (hb0 _).trans (hb1.mono (by simp))
 have HE1 : Hid (Env w1 aL aT aC) := HE.out.below hB1
 obtain ⟨ev, hev⟩ : ∃ ev, ev = errV (askErr s) aL aT aC := ⟨_, rfl⟩
 rw [← hev]
 have HF : Hid (Calls Tryz.prog 36 #[ev] w1 fun e w' => e = .returned (faultV (askErr s)) ∧ Below w1.heap.size w1 w') := by
  rw [hev]; exact fault_any _ (by omega) w1 aL aT aC HE1.out
 have k0 : w1.cell? ⟨w.heap.size, 0, none⟩ = some (.int .i64 0) := by rw [hb1.cell (p := ⟨w.heap.size, 0, none⟩) (by simp)]; go_simp
 have k1 : w1.cell? ⟨w.heap.size, 1, none⟩ = some (.int .i64 0) := by rw [hb1.cell (p := ⟨w.heap.size, 1, none⟩) (by simp)]; go_simp
 have k2 : w1.cell? ⟨w.heap.size, 2, none⟩ = some (.int .i64 0) := by rw [hb1.cell (p := ⟨w.heap.size, 2, none⟩) (by simp)]; go_simp
 have f0 : w1.frozen? ⟨w.heap.size, 0, none⟩ = false := by rw [hb1.frozen (p := ⟨w.heap.size, 0, none⟩) (by simp)]; go_simp
 have f1 : w1.frozen? ⟨w.heap.size, 1, none⟩ = false := by rw [hb1.frozen (p := ⟨w.heap.size, 1, none⟩) (by simp)]; go_simp
 have f2 : w1.frozen? ⟨w.heap.size, 2, none⟩ = false := by rw [hb1.frozen (p := ⟨w.heap.size, 2, none⟩) (by simp)]; go_simp
 have hz : w.heap.size < w1.heap.size := by have := hb1.size; simp at this; omega
 have HB1 : Hid (Below w.heap.size w w1) := hB1
 have HS : Hid (w1.ownsRow (w.heap.size + 1) 3 1 v LV.length (iv LV)) := hsl.low (by simp)
 have HN : Hid (askErr s ≠ 0 → v = .slice none 0 0) := hnil
 clear hev hB1 hb1 hb0 hsl hnil HG
 go_wp2_with fail
 refine HF.out.mono ?_
 rintro e w2 ⟨rfl, hb2⟩
 obtain ⟨er, m, hfv⟩ : ∃ er m, faultV (askErr s) = .agg #[.int .i64 er, .int .i64 m, .int .i64 m] := ⟨_, _, rfl⟩
 have HFV : Hid (faultV (askErr s) = .agg #[.int .i64 er, .int .i64 m, .int .i64 m]) := hfv
 rw [hfv]
 have j0 : w2.cell? ⟨w.heap.size, 0, none⟩ = some (.int .i64 0) := cell_keep hb2 k0
 have j1 : w2.cell? ⟨w.heap.size, 1, none⟩ = some (.int .i64 0) := cell_keep hb2 k1
 have j2 : w2.cell? ⟨w.heap.size, 2, none⟩ = some (.int .i64 0) := cell_keep hb2 k2
 have g0 : w2.frozen? ⟨w.heap.size, 0, none⟩ = false := (hb2.frozen (p := ⟨w.heap.size, 0, none⟩) hz).trans f0
 have g1 : w2.frozen? ⟨w.heap.size, 1, none⟩ = false := (hb2.frozen (p := ⟨w.heap.size, 1, none⟩) hz).trans f1
 have g2 : w2.frozen? ⟨w.heap.size, 2, none⟩ = false := (hb2.frozen (p := ⟨w.heap.size, 2, none⟩) hz).trans f2
 have HB2 : Hid (Below w.heap.size w w2) := HB1.out.trans (hb2.mono HB1.out.size)
 have HS2 : Hid (w2.ownsRow (w.heap.size + 1) 3 1 v LV.length (iv LV)) := ownsRow_blocks HS.out fun k o _ ho => heap_keep hb2 ho
 clear hfv hb2 k0 k1 k2 f0 f1 f2 HF
 go_wp2
 refine bodyPost_ret (v := .tuple #[v, .agg #[.int .i64 er, .int .i64 m, .int .i64 m]]) (by simp [results, Tryz.results20, go_sem, j0, j1, j2]) rfl ⟨v, by rw [HFV.out], ?_, HN.out, ?_⟩
 ·exact own_lower (ownsRow_setCell_below (ownsRow_setCell_below (ownsRow_setCell_below HS2.out (by simp) _) (by simp) _) (by simp) _)
 ·exact ((HB2.out.setCell (Nat.le_refl _) _).setCell (Nat.le_refl _) _).setCell (Nat.le_refl _) _
end Go.Proofs.YtkbinfhclaafhaaGreatDoor
