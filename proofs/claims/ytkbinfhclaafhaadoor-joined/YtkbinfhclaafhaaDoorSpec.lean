namespace Go.Proofs.YtkbinfhclaafhaaDoor

/-! Plain functions: the document's rules over lists of numbers. -/
def isoB (c : Int) : Bool := c == 18 || (c == 19 || c == 20)
/-- The place of the PDI, from the head of the list on, at which the count comes down to 0. -/
def mtL : List Int → Int → Option Nat
  | [], _ => none
  | c :: r, n => if c = 21 then (if n - 1 = 0 then some 0 else (mtL r (n - 1)).map (· + 1)) else (mtL r (if isoB c = true then n + 1 else n)).map (· + 1)
def mt (cs : List Int) (i : Nat) : Nat := match mtL (cs.drop i) 0 with
  | some d => i + d
  | none => cs.length
theorem isoB_pdi : isoB 21 = false := by decide

def MtTo (cs : List Int) (i k : Nat) (n : Int) : Prop := i ≤ k ∧ k ≤ cs.length ∧ mtL (cs.drop i) 0 = (mtL (cs.drop k) n).map (· + (k - i))
theorem MtTo.start (cs : List Int) (i : Nat) (h : i ≤ cs.length) : MtTo cs i i 0 := ⟨Nat.le_refl _, h, by simp⟩
theorem MtTo.stop {cs : List Int} {i k : Nat} {n : Int} (h : MtTo cs i k n) (hk : ¬ k < cs.length) : mt cs i = cs.length := by
  obtain ⟨_, h2, h3⟩ := h
  unfold mt
  rw [h3, List.drop_eq_nil_of_le (by omega)]
  rfl
theorem drop_at {cs : List Int} {k : Nat} (hk : k < cs.length) : cs.drop k = cs.getD k 0 :: cs.drop (k + 1) := by
  rw [List.drop_eq_getElem_cons hk]
  simp [List.getD_eq_getElem?_getD, List.getElem?_eq_getElem hk]
theorem MtTo.plain {cs : List Int} {i k : Nat} {n : Int} (h : MtTo cs i k n) (hk : k < cs.length) (hc : cs.getD k 0 ≠ 21) : MtTo cs i (k + 1) (if isoB (cs.getD k 0) = true then n + 1 else n) := by
  obtain ⟨h1, h2, h3⟩ := h
  refine ⟨by omega, hk, ?_⟩
  rw [h3, drop_at hk, mtL, if_neg hc, Option.map_map]
  congr 1
  funext d
  simp only [Function.comp]
  omega
theorem MtTo.pdi {cs : List Int} {i k : Nat} {n : Int} (h : MtTo cs i k n) (hk : k < cs.length) (hc : cs.getD k 0 = 21) (hn : n - 1 ≠ 0) : MtTo cs i (k + 1) (n - 1) := by
  obtain ⟨h1, h2, h3⟩ := h
  refine ⟨by omega, hk, ?_⟩
  rw [h3, drop_at hk, hc, mtL, if_pos rfl, if_neg hn, Option.map_map]
  congr 1
  funext d
  simp only [Function.comp]
  omega
theorem MtTo.hit {cs : List Int} {i k : Nat} {n : Int} (h : MtTo cs i k n) (hk : k < cs.length) (hc : cs.getD k 0 = 21) (hn : n - 1 = 0) : mt cs i = k := by
  obtain ⟨h1, h2, h3⟩ := h
  unfold mt
  rw [h3, drop_at hk, hc, mtL, if_pos rfl, if_pos hn]
  simp
  omega
theorem mtL_lt : ∀ (l : List Int) (n : Int) (d : Nat), mtL l n = some d → d < l.length
  | [], _, _, h => by simp [mtL] at h
  | c :: r, n, d, h => by
    rw [mtL] at h
    split at h
    · split at h
      · simp at h; subst h; simp
      · cases hr : mtL r (n - 1) with
        | none => rw [hr] at h; simp at h
        | some d' => rw [hr] at h; simp at h; subst h; have := mtL_lt r _ d' hr; simp; omega
    · cases hr : mtL r (if isoB c = true then n + 1 else n) with
      | none => rw [hr] at h; simp at h
      | some d' => rw [hr] at h; simp at h; subst h; have := mtL_lt r _ d' hr; simp; omega
theorem mt_le (cs : List Int) (i : Nat) (h : i ≤ cs.length) : i ≤ mt cs i ∧ mt cs i ≤ cs.length := by
  unfold mt
  split
  · rename_i d hd
    have := mtL_lt _ _ _ hd
    simp at this
    omega
  · omega

/-- The paragraph level of some runes. -/
def foundF (cs : List Int) : Nat → Nat → Int
  | 0, _ => 0
  | f + 1, i => if i < cs.length then (if cs.getD i 0 = 0 then 0 else if cs.getD i 0 = 1 ∨ cs.getD i 0 = 2 then 1 else if isoB (cs.getD i 0) = true then foundF cs f (mt cs i + 1) else foundF cs f (i + 1)) else 0
def found (cs : List Int) : Int := foundF cs cs.length 0
theorem foundF_more (cs : List Int) : ∀ f i, cs.length ≤ i + f → foundF cs f i = foundF cs (f + 1) i
  | 0, i, h => by rw [foundF, foundF, if_neg (by omega)]
  | f + 1, i, h => by
    rw [foundF, foundF]
    by_cases hi : i < cs.length
    · rw [if_pos hi, if_pos hi]
      have hm := mt_le cs i (by omega)
      rw [foundF_more cs f (mt cs i + 1) (by omega), foundF_more cs f (i + 1) (by omega)]
    · rw [if_neg hi, if_neg hi]
theorem foundF_any (cs : List Int) (f g i : Nat) (hf : cs.length ≤ i + f) (hg : cs.length ≤ i + g) : foundF cs f i = foundF cs g i := by
  have key : ∀ d f i, cs.length ≤ i + f → foundF cs f i = foundF cs (f + d) i := by
    intro d
    induction d with
    | zero => intro f i _; rfl
    | succ d ih => intro f i h; rw [ih f i h, foundF_more cs (f + d) i (by omega)]; rfl
  rcases Nat.le_total f g with h | h
  · rw [key (g - f) f i hf]; congr 1; omega
  · rw [key (f - g) g i hg]; congr 1; omega

def strongS (c : Int) : Int := if c = 0 then 0 else if c = 1 ∨ c = 3 ∨ c = 6 then 1 else -1
def sideS (a b : Int) : Int := if (if a < b then b else a) % 2 = 1 then 1 else 0
def implS (c l : Int) : Int := if l % 2 = 0 then (if c = 1 then l + 1 else if c = 6 ∨ c = 3 then l + 2 else l) else (if c = 1 then l else l + 1)
def looseB (c : Int) : Bool := c == 11 || (c == 9 || decide (13 ≤ c))
/-- What a rune is among brackets: 1 it opens, 2 it closes, 0 neither; and the rune that opens such a pair. -/
def canon (r : Int) : Int := if r = 9001 then 12296 else if r = 9002 then 12297 else r
def brk (r : Int) : Int × Int :=
  if canon r = 40 ∨ canon r = 91 ∨ canon r = 123 ∨ canon r = 12296 then (1, canon r)
  else if canon r = 41 then (2, 40) else if canon r = 93 then (2, 91) else if canon r = 125 then (2, 123) else if canon r = 12297 then (2, 12296) else (0, 0)
end Go.Proofs.YtkbinfhclaafhaaDoor
