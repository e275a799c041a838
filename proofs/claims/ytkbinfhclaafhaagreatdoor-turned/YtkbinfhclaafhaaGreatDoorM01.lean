import Derived.Test.YtkbinfhclaafhaaGreatDoorProg
import Derived.WalkKit
import Derived.WalkSpells
import Derived.WalkLawsBesides
import Derived.Deep.QuietTactic
import Derived.BigQuiet
import Derived.WalkSmall
import Derived.Lib.OthersKept
import Derived.RegionTactic
import Derived.BigRegion
namespace Go.Proofs.YtkbinfhclaafhaaGreatDoor
def isoB (c : Int) : Bool := c == 18 || (c == 19 || c == 20)
def mtL : List Int → Int → Option Nat
 | [], _ => none
 | c :: r, n => if c = 21 then (if n - 1 = 0 then some 0 else (mtL r (n - 1)).map (· + 1)) else (mtL r (if isoB c = true then n + 1 else n)).map (· + 1)
def mt (cs : List Int) (i : Nat) : Nat := match mtL (cs.drop i) 0 with
 | some d => i + d
 | none => cs.length
theorem isoB_pdi : isoB 21 = false := by decide
def MtTo (cs : List Int) (i k : Nat) (n : Int) : Prop := i ≤ k ∧ k ≤ cs.length ∧ mtL (cs.drop i) 0 = (mtL (cs.drop k) n).map (· + (k - i))
theorem MtTo.start (cs : List Int) (i : Nat) (h : i ≤ cs.length) : MtTo cs i i 0 := ⟨Nat.le_refl _, h, by simp⟩
theorem MtTo.stop {cs : List Int} {i k : Nat} {n : Int} (h : MtTo cs i k n) (hk : ¬ k < cs.length) : mt cs i = cs.length := by
 obtain ⟨_, h2, h3⟩ := h
 unfold mt
 rw [h3, List.drop_eq_nil_of_le (by omega)]
 rfl
theorem drop_at {cs : List Int} {k : Nat} (hk : k < cs.length) : cs.drop k = cs.getD k 0 :: cs.drop (k + 1) := by
 rw [List.drop_eq_getElem_cons hk]
 simp [List.getD_eq_getElem?_getD, List.getElem?_eq_getElem hk]
theorem MtTo.plain {cs : List Int} {i k : Nat} {n : Int} (h : MtTo cs i k n) (hk : k < cs.length) (hc : cs.getD k 0 ≠ 21) : MtTo cs i (k + 1) (if isoB (cs.getD k 0) = true then n + 1 else n) := by
 obtain ⟨h1, h2, h3⟩ := h
 refine ⟨by omega, hk, ?_⟩
 rw [h3, drop_at hk, mtL, if_neg hc, Option.map_map]
 congr 1
 funext d
 simp only [Function.comp]
 omega
theorem MtTo.pdi {cs : List Int} {i k : Nat} {n : Int} (h : MtTo cs i k n) (hk : k < cs.length) (hc : cs.getD k 0 = 21) (hn : n - 1 ≠ 0) : MtTo cs i (k + 1) (n - 1) := by
 obtain ⟨h1, h2, h3⟩ := h
 refine ⟨by omega, hk, ?_⟩
 rw [h3, drop_at hk, hc, mtL, if_pos rfl, if_neg hn, Option.map_map]
 congr 1
 funext d
 simp only [Function.comp]
 omega
theorem MtTo.hit {cs : List Int} {i k : Nat} {n : Int} (h : MtTo cs i k n) (hk : k < cs.length) (hc : cs.getD k 0 = 21) (hn : n - 1 = 0) : mt cs i = k := by
 obtain ⟨h1, h2, h3⟩ := h
 unfold mt
 rw [h3, drop_at hk, hc, mtL, if_pos rfl, if_pos hn]
 simp
 omega
theorem mtL_lt : ∀ (l : List Int) (n : Int) (d : Nat), mtL l n = some d → d < l.length
 | [], _, _, h => by simp [mtL] at h
 | c :: r, n, d, h => by
  rw [mtL] at h
  split at h
  ·split at h
   ·simp at h; subst h; simp
   ·cases hr : mtL r (n - 1) with
    | none => rw [hr] at h; simp at h
    | some d' => rw [hr] at h; simp at h; subst h; have := mtL_lt r _ d' hr; simp; omega
  ·cases hr : mtL r (if isoB c = true then n + 1 else n) with
   | none => rw [hr] at h; simp at h
   | some d' => rw [hr] at h; simp at h; subst h; have := mtL_lt r _ d' hr; simp; omega
theorem mt_le (cs : List Int) (i : Nat) (h : i ≤ cs.length) : i ≤ mt cs i ∧ mt cs i ≤ cs.length := by
 unfold mt
 split
 ·rename_i d hd
  have := mtL_lt _ _ _ hd
  simp at this
  omega
 ·omega
def foundF (cs : List Int) : Nat → Nat → Int
 | 0, _ => 0
 | f + 1, i => if i < cs.length then (if cs.getD i 0 = 0 then 0 else if cs.getD i 0 = 1 ∨ cs.getD i 0 = 2 then 1 else if isoB (cs.getD i 0) = true then foundF cs f (mt cs i + 1) else foundF cs f (i + 1)) else 0
def found (cs : List Int) : Int := foundF cs cs.length 0
theorem foundF_more (cs : List Int) : ∀ f i, cs.length ≤ i + f → foundF cs f i = foundF cs (f + 1) i
 | 0, i, h => by rw [foundF, foundF, if_neg (by omega)]
 | f + 1, i, h => by
  rw [foundF, foundF]
  by_cases hi : i < cs.length
  ·rw [if_pos hi, if_pos hi]
   have hm := mt_le cs i (by omega)
   rw [foundF_more cs f (mt cs i + 1) (by omega), foundF_more cs f (i + 1) (by omega)]
  ·rw [if_neg hi, if_neg hi]
theorem foundF_any (cs : List Int) (f g i : Nat) (hf : cs.length ≤ i + f) (hg : cs.length ≤ i + g) : foundF cs f i = foundF cs g i := by
 have key : ∀ d f i, cs.length ≤ i + f → foundF cs f i = foundF cs (f + d) i := by
  intro d
  induction d with
  | zero => intro f i _; rfl
  | succ d ih => intro f i h; rw [ih f i h, foundF_more cs (f + d) i (by omega)]; rfl
 rcases Nat.le_total f g with h | h
 ·rw [key (g - f) f i hf]; congr 1; omega
 ·rw [key (f - g) g i hg]; congr 1; omega
def strongS (c : Int) : Int := if c = 0 then 0 else if c = 1 ∨ c = 3 ∨ c = 6 then 1 else -1
def sideS (a b : Int) : Int := if (if a < b then b else a) % 2 = 1 then 1 else 0
def implS (c l : Int) : Int := if l % 2 = 0 then (if c = 1 then l + 1 else if c = 6 ∨ c = 3 then l + 2 else l) else (if c = 1 then l else l + 1)
def looseB (c : Int) : Bool := c == 11 || (c == 9 || decide (13 ≤ c))
def canon (r : Int) : Int := if r = 9001 then 12296 else if r = 9002 then 12297 else r
def brk (r : Int) : Int × Int :=
 if canon r = 40 ∨ canon r = 91 ∨ canon r = 123 ∨ canon r = 12296 then (1, canon r)
 else if canon r = 41 then (2, 40) else if canon r = 93 then (2, 91) else if canon r = 125 then (2, 123) else if canon r = 12297 then (2, 12296) else (0, 0)
end Go.Proofs.YtkbinfhclaafhaaGreatDoor
namespace Go.Proofs.YtkbinfhclaafhaaGreatDoor
open Go.RowKit
def IntsAt (w : World) (b off : Nat) (l : List Int) : Prop := ∀ i, i < l.length → w.cell? ⟨b, off + i, none⟩ = some (.int .i64 (l.getD i 0))
def SlI (w : World) (v : Value) (l : List Int) : Prop := (v = .slice none 0 0 ∧ l = []) ∨ ∃ b off cap, v = .slice (some ⟨b, off, none⟩) l.length cap ∧ IntsAt w b off l
theorem ret_int {k : IntKind} {a b : Int} (h : a = b) : Ending.returned (.int k a) = .returned (.int k b) := by rw [h]
theorem ret_bool {a b : Bool} (h : a = b) : Ending.returned (.bool a) = .returned (.bool b) := by rw [h]
def amongB (r : Int) (l : List Int) : Bool := l.contains r
theorem among_succ (l : List Int) (r : Int) (k : Nat) (h : k < l.length) (hn : amongB r (l.take k) = false) (he : (l.getD k 0 == r) = false) : amongB r (l.take (k + 1)) = false := by
 unfold amongB at hn ⊢
 rw [List.getD_eq_getElem?_getD, List.getElem?_eq_getElem h] at he
 simp only [Option.getD_some, beq_eq_false_iff_ne] at he
 rw [List.take_succ_eq_append_getElem h, List.contains_eq_mem, decide_eq_false_iff_not, List.mem_append]
 rw [List.contains_eq_mem, decide_eq_false_iff_not] at hn
 rintro (e | e)
 ·exact hn e
 ·exact he (List.mem_singleton.1 e).symm
theorem among_hit (l : List Int) (r : Int) (k : Nat) (h : k < l.length) (he : (l.getD k 0 == r) = true) : amongB r l = true := by
 unfold amongB
 rw [List.getD_eq_getElem?_getD, List.getElem?_eq_getElem h] at he
 simp at he
 simp
 exact he ▸ List.getElem_mem h
set_option maxHeartbeats 400000 in
theorem among_row (r : Int) (l : List Int) (b off cap n : Nat) (w : World) (hl : l.length = n) (hn : n ≤ 1000000) (hc : IntsAt w b off l) :
  Calls Tryz.prog 68 #[.int .i64 r, .slice (some ⟨b, off, none⟩) n cap] w fun e w' => e = .returned (.bool (amongB r l)) ∧ w' = w := by
 have HC : Hid (IntsAt w b off l) := hc
 have HL : Hid (l.length = n) := hl
 clear hc hl
 go_enter Tryz.func68, Tryz.ntmps68
 go_wp2
 go_loop [5] (fun i => ∃ k : Nat, k ≤ n ∧ i = .int .i64 k ∧ amongB r (l.take k) = false) (fun i => n - (intOf i).toNat)
 case atStart => exact ⟨0, Nat.zero_le _, rfl, by simp [amongB]⟩
 case round =>
  obtain ⟨k, hk, rfl, hn⟩ := hrel
  have HN : Hid (amongB r (l.take k) = false) := hn
  clear hn
  by_cases hlt : k < n
  ·have hcell := HC.out k (by rw [HL.out]; exact hlt)
   obtain ⟨x, hx⟩ : ∃ x, x = l.getD k 0 := ⟨_, rfl⟩
   rw [← hx] at hcell
   have HX : Hid (x = l.getD k 0) := hx
   clear hx
   by_cases he : (x == r) = true
   ·go_wp2
    go_ret
    exact ⟨ret_bool (among_hit l r k (by rw [HL.out]; exact hlt) (HX.out ▸ he)).symm, rfl⟩
   ·have he : (x == r) = false := by simpa using he
    go_wp2
    go_round
    case rel => exact ⟨k + 1, by omega, by go_num, among_succ l r k (by rw [HL.out]; exact hlt) HN.out (HX.out ▸ he)⟩
    case measure => simp [intOf]; omega
  ·go_wp2
   go_ret
   refine ⟨ret_bool ?_, rfl⟩
   have := HN.out
   rw [List.take_of_length_le (by rw [HL.out]; omega)] at this
   exact this.symm
theorem among_nil (r : Int) (w : World) :
  Calls Tryz.prog 68 #[.int .i64 r, .slice none 0 0] w fun e w' => e = .returned (.bool false) ∧ w' = w := by
 go_enter Tryz.func68, Tryz.ntmps68
 go_wp2
 refine wp_loop_rounds 1 ?_
 rw [rounds_succ]
 go_wp2
 go_ret
 exact ⟨rfl, rfl⟩
theorem among_any (r : Int) (l : List Int) (v : Value) (w : World) (hl : l.length ≤ 1000000) (hv : SlI w v l) :
  Calls Tryz.prog 68 #[.int .i64 r, v] w fun e w' => e = .returned (.bool (amongB r l)) ∧ w' = w := by
 rcases hv with ⟨rfl, rfl⟩ | ⟨b, off, cap, rfl, hc⟩
 ·exact among_nil r w
 ·exact among_row r l b off cap l.length w rfl hl hc
set_option maxHeartbeats 400000 in
theorem told_same (x y z : Int) (w : World) :
  Calls Tryz.prog 47 #[.agg #[.int .i64 x, .int .i64 y, .int .i64 z], .agg #[.int .i64 x, .int .i64 y, .int .i64 z]] w fun e w' => e = .returned (.bool true) ∧ Below w.heap.size w w' := by
 go_enter Tryz.func47, Tryz.ntmps47
 go_wp2
 go_ret
 exact ⟨rfl, by repeat (first | exact Below.refl _ _ | refine Below.alloc ?_ (by simp <;> omega) _)⟩
theorem Below.chain {a b b' c : World} (h1 : Below a.heap.size a b) (h : Below b.heap.size b b') (h2 : Below b'.heap.size b' c) : Below a.heap.size a c :=
 h1.trans ((h.mono h1.size).trans (h2.mono (Nat.le_trans h1.size h.size)))
theorem bcell {W w1 : World} (hb : Below W.heap.size W w1) : (∀ b o, b < W.heap.size → w1.cell? ⟨b, o, none⟩ = W.cell? ⟨b, o, none⟩) ∧ (∀ b o, b < W.heap.size → w1.frozen? ⟨b, o, none⟩ = W.frozen? ⟨b, o, none⟩) :=
 ⟨fun b o h => hb.cell (p := ⟨b, o, none⟩) h, fun b o h => hb.frozen (p := ⟨b, o, none⟩) h⟩
theorem IntsAt.below {W w1 : World} {b off : Nat} {l : List Int} (h : IntsAt W b off l) (hb : Below W.heap.size W w1) : IntsAt w1 b off l := by
 intro i hi
 have := h i hi
 rw [← this]
 refine hb.cell ?_
 rcases Nat.lt_or_ge b W.heap.size with h' | h'
 ·exact h'
 ·simp [World.cell?, Array.getElem?_eq_none h'] at this
theorem SlI.below {W w1 : World} {v : Value} {l : List Int} (h : SlI W v l) (hb : Below W.heap.size W w1) : SlI w1 v l := by
 rcases h with h | ⟨b, off, cap, rfl, hc⟩
 ·exact .inl h
 ·exact .inr ⟨b, off, cap, rfl, hc.below hb⟩
set_option maxHeartbeats 1000000 in
theorem numbers_err (x y z : Int) (ao : Option Addr) (c : Nat) (w : World) (hx : (x != 0) = true) :
  Calls Tryz.prog 28 #[.slice none 0 0, .agg #[.int .i64 x, .int .i64 y, .int .i64 z], .slice ao 0 c, .agg #[.int .i64 x, .int .i64 y, .int .i64 z]] w fun e w' => e = .returned (.bool true) ∧ Below w.heap.size w w' := by
 go_enter Tryz.func28, Tryz.ntmps28
 go_wp2_with fail
 refine (told_same x y z _).mono ?_
 rintro e w1 ⟨rfl, hb⟩
 obtain ⟨hc, hf⟩ := bcell hb
 go_wp2
 refine wp_loop_rounds 1 ?_
 rw [rounds_succ]
 go_wp2
 go_ret
 exact ⟨rfl, (((Below.refl _ _).alloc (Nat.le_refl _) _).alloc (by simp) _).trans (hb.mono (by simp; omega))⟩
set_option maxHeartbeats 1000000 in
theorem numbers_zero (y z : Int) (ao ao' : Option Addr) (c c' : Nat) (w : World) :
  Calls Tryz.prog 28 #[.slice ao' 0 c', .agg #[.int .i64 0, .int .i64 y, .int .i64 z], .slice ao 0 c, .agg #[.int .i64 0, .int .i64 y, .int .i64 z]] w fun e w' => e = .returned (.bool true) ∧ Below w.heap.size w w' := by
 go_enter Tryz.func28, Tryz.ntmps28
 go_wp2_with fail
 refine (told_same 0 y z _).mono ?_
 rintro e w1 ⟨rfl, hb⟩
 obtain ⟨hc, hf⟩ := bcell hb
 go_wp2
 refine wp_loop_rounds 1 ?_
 rw [rounds_succ]
 go_wp2
 go_ret
 exact ⟨rfl, (((Below.refl _ _).alloc (Nat.le_refl _) _).alloc (by simp) _).trans (hb.mono (by simp; omega))⟩
set_option maxHeartbeats 2000000 in
theorem numbers_row (y z : Int) (l : List Int) (n b off c b' off' c' : Nat) (w : World) (hl : l.length = n) (hn : n ≤ 1000000) (ha : IntsAt w b off l) (hb : IntsAt w b' off' l) :
  Calls Tryz.prog 28 #[.slice (some ⟨b, off, none⟩) n c, .agg #[.int .i64 0, .int .i64 y, .int .i64 z], .slice (some ⟨b', off', none⟩) n c', .agg #[.int .i64 0, .int .i64 y, .int .i64 z]] w fun e w' => e = .returned (.bool true) ∧ Below w.heap.size w w' := by
 have HA : Hid (IntsAt w b off l) := ha
 have HB : Hid (IntsAt w b' off' l) := hb
 have HL : Hid (l.length = n) := hl
 clear ha hb hl
 go_enter Tryz.func28, Tryz.ntmps28
 go_wp2_with fail
 refine (told_same 0 y z _).mono ?_
 rintro e w1 ⟨rfl, hb⟩
 have hB : Below w.heap.size w w1 := (((Below.refl _ _).alloc (Nat.le_refl _) _).alloc (by simp) _).trans (hb.mono (by simp; omega))
 have HA1 : Hid (IntsAt w1 b off l) := HA.out.below hB
 have HB1 : Hid (IntsAt w1 b' off' l) := HB.out.below hB
 have HBe : Hid (Below w.heap.size w w1) := hB
 obtain ⟨hc, hf⟩ := bcell hb
 clear hB
 go_wp2
 clear hc hf hb
 go_loopw [10] (fun i wr => ∃ k m : Nat, k ≤ n ∧ i = .int .i64 k ∧ wr = w1.drewN m) (fun i _ => n - (intOf i).toNat)
 case atStart => exact ⟨0, 0, Nat.zero_le _, rfl, rfl⟩
 case round =>
  obtain ⟨k, m, hk, rfl, rfl⟩ := hrel
  by_cases hlt : k < n
  ·have h1 := HA1.out k (by rw [HL.out]; exact hlt)
   have h2 := HB1.out k (by rw [HL.out]; exact hlt)
   generalize l.getD k 0 = x at h1 h2
   have hlt' : (k : Int) < (n : Int) := by omega
   go_wp2_with fail
   go_quiet (fail)
   go_wp2
   go_roundw
   case rel => exact ⟨k + 1, _, by omega, by go_num, rfl⟩
   case measure => simp [intOf]; omega
  ·go_wp2
   go_ret
   exact ⟨rfl, below_drewN HBe.out _⟩
theorem numbers_any (x y z : Int) (l : List Int) (va vb : Value) (w : World) (hl : l.length ≤ 1000000) (ha : SlI w va l) (hb : SlI w vb l) (hx : x ≠ 0 → va = .slice none 0 0) :
  Calls Tryz.prog 28 #[va, .agg #[.int .i64 x, .int .i64 y, .int .i64 z], vb, .agg #[.int .i64 x, .int .i64 y, .int .i64 z]] w fun e w' => e = .returned (.bool true) ∧ Below w.heap.size w w' := by
 by_cases h0 : x = 0
 ·subst h0
  rcases ha with ⟨rfl, rfl⟩ | ⟨b, off, c, rfl, ha⟩
  ·rcases hb with ⟨rfl, _⟩ | ⟨b', off', c', rfl, _⟩
   ·exact numbers_zero y z _ _ _ _ w
   ·exact numbers_zero y z _ _ _ _ w
  ·rcases hb with ⟨rfl, rfl⟩ | ⟨b', off', c', rfl, hb⟩
   ·exact numbers_zero y z _ _ _ _ w
   ·exact numbers_row y z l l.length b off c b' off' c' w rfl hl ha hb
 ·have := hx h0
  subst this
  rcases ha with ⟨_, rfl⟩ | ⟨b, off, c, h, _⟩
  ·rcases hb with ⟨rfl, _⟩ | ⟨b', off', c', rfl, _⟩
   ·exact numbers_err x y z _ _ w (by simpa using h0)
   ·exact numbers_err x y z _ _ w (by simpa using h0)
  ·simp at h
end Go.Proofs.YtkbinfhclaafhaaGreatDoor
namespace Go.Proofs.YtkbinfhclaafhaaGreatDoor
open Go.RowKit
theorem wpList_push {P : Program} (w : World) {ops : Array Oper} {rest : List Oper} {o : Oper} {a : Act} {Q : Exit → Act → World → Prop} (hgd : o.guard = none) (s x : Operand) (t : TypeId)
  (ho : o.op = .call { callee := .builtin .append, args := #[s, x], argTypes := #[t, t] })
  (base : Nat) (e : TypeId) (i : TypeInfo) (z : Value) (bytes : Nat) (ht : P.underlying t = some (.slice e)) (hi : P.info? e = some i) (hz : i.zero = some z)
  (hsize : i.size = 1) (hby : i.bytes = bytes) (hzs : z.cells.size = 1) (hb64 : bytes ≤ 64)
  (v : Value) (n : Nat) (xs : List Value) (hs : a.eval s = v) (hown : w.ownsRow base e 1 v n xs)
  (y : Value) (e' : TypeId) (hx : a.eval x = .slice (some ⟨w.heap.size, 0, none⟩) 1 1) (h1 : y.oneCell' = true) (hn : n ≤ 1000000) (hbase : base ≤ w.heap.size)
  (h : ∀ v' w', w'.ownsRow base e 1 v' (n + 1) (xs ++ [y]) → Below base w w' → wpList P ops Q rest (a.put o.dst v') w') : wpList P ops Q (o :: rest) a (w.alloc (.cells #[y] e')) := by
 refine wpList_append_own _ hgd s x t ho base e i z 1 bytes ht hi hz hsize hby hzs (by decide) v n xs hs (hown.alloc _) ⟨w.heap.size, 0, none⟩ 1 1 [y] hx rfl ?_ ?_ ?_ ?_ ?_ ?_
 ·intro j u hj
  match j, hj with
  | 0, hj => simp at hj; subst hj; simp [Addr.add]
 ·intro u hu; simp at hu; subst hu; exact h1
 ·unfold maxLen; omega
 ·have : (n + 1) * bytes ≤ 1000001 * 64 := Nat.mul_le_mul (by omega) hb64
  omega
 ·simp; omega
 ·intro v' w' h2 h3 _
  exact h v' w' h2 (((Below.refl base w).alloc hbase _).grown h3 (by simp; omega) fun k hk => (hown.lt k hk).1)
theorem SlI.of_owns {w : World} {base : Nat} {e : TypeId} {v : Value} {n : Nat} {l : List Int} (h : w.ownsRow base e 1 v n (l.map (Value.int .i64))) : SlI w v l := by
 have hn : l.length = n := by have := h.1; simpa using this
 rcases h.2 with ⟨rfl, h0⟩ | ⟨g, cap, cur, rfl, _⟩
 ·exact .inl ⟨rfl, List.length_eq_zero_iff.1 (by omega)⟩
 ·refine .inr ⟨g, 0, cap, by rw [hn], fun i hi => ?_⟩
  have := h.cellAt i (by omega)
  rw [Nat.zero_add, this, List.getElem?_map, List.getElem?_eq_getElem hi]
  simp [List.getD_eq_getElem?_getD, List.getElem?_eq_getElem hi]
theorem intsAt_alloc (w : World) (l : List Int) (t : TypeId) : IntsAt (w.alloc (.cells (l.map (Value.int .i64)).toArray t)) w.heap.size 0 l := by
 intro i hi
 rw [World.cell?_alloc_at _ _ _ _ rfl]
 simp [List.getD_eq_getElem?_getD, List.getElem?_eq_getElem hi]
theorem intsAt_new (w : World) (n : Nat) (l : List Int) (cs : Array Value) (t : TypeId) (hn : n = w.heap.size) (hcs : cs = (l.map (Value.int .i64)).toArray) : IntsAt (w.alloc (.cells cs t)) n 0 l := by
 subst hn; subst hcs; exact intsAt_alloc w l t
theorem wrap64_u8 (b : UInt8) : wrap64 (b.toNat : Int) = (b.toNat : Int) := by have := b.toNat_lt; exact IntWalk.wrap64_in _ (by omega)
theorem Tryz.infoInt : (Tryz.prog.info? 3).map (fun i => (i.zero, i.size, i.bytes)) = some (some (.int .i64 0), 1, 8) := by kernel_rfl
def bytesI (s : ByteArray) : List Int := s.data.toList.map fun b => (b.toNat : Int)
theorem bytesI_length (s : ByteArray) : (bytesI s).length = s.size := by simp only [bytesI, List.length_map, Array.length_toList]; rfl
theorem bytesI_snoc (s : ByteArray) (k : Nat) (h : k < s.size) : (bytesI s).take (k + 1) = (bytesI s).take k ++ [(s[k].toNat : Int)] := by
 rw [List.take_succ_eq_append_getElem (by rw [bytesI_length]; exact h)]
 congr 1
 simp [bytesI]
 rfl
set_option maxHeartbeats 1000000 in
theorem signs_any (s : ByteArray) (w : World) (hs : s.size ≤ 10000) :
  Calls Tryz.prog 113 #[.string s] w fun e w' => ∃ v, e = .returned v ∧ w'.ownsRow w.heap.size 3 1 v s.size ((bytesI s).map (Value.int .i64)) ∧ Below w.heap.size w w' := by
 obtain ⟨i0, hi, hz0, hz1, hz2⟩ := info_parts Tryz.infoInt
 go_enter Tryz.func113, Tryz.ntmps113
 go_wp2
 go_loopw [3, 4] (fun v i wr => ∃ k : Nat, k ≤ s.size ∧ i = .int .i64 k ∧ wr.ownsRow w.heap.size 3 1 v k (((bytesI s).take k).map (Value.int .i64)) ∧ Below w.heap.size w wr) (fun _ i _ => s.size - (intOf i).toNat)
 case atStart => exact ⟨0, Nat.zero_le _, rfl, by simpa using World.ownsRow_nil _ _ _ _, Below.refl _ _⟩
 case round =>
  obtain ⟨k, hk, rfl, hown, hb⟩ := hrel
  by_cases hlt : k < s.size
  ·have HS : Hid ((bytesI s).take (k + 1) = (bytesI s).take k ++ [(s[k].toNat : Int)]) := bytesI_snoc s k hlt
   have hbz := hb.size
   go_wp2_with (at_builtin; refine wpList_push _ rfl _ _ 31 rfl w.heap.size 3 i0 (.int .i64 0) 8 Tryz.underlying31 hi hz0 hz1 hz2 rfl (by decide) _ _ _ rfl hown _ _ rfl rfl (by omega) (by omega) ?_)
   intro v' w1 hown' hb'
   clear hown
   go_wp2
   go_roundw
   case rel => exact ⟨k + 1, by omega, by go_num, by rw [HS.out]; rw [wrap64_u8] at hown'; simpa using hown', hb.trans hb'⟩
   case measure => simp [intOf]; omega
  ·go_wp2
   go_ret
   refine ⟨_, rfl, ?_, hb⟩
   have e : k = s.size := by omega
   subst e
   rwa [List.take_of_length_le (by rw [bytesI_length]; omega)] at hown
def cls (r : Int) : Int :=
 if (1488 ≤ r ∧ r ≤ 1514) ∨ r = 8207 then 1
 else if (1575 ≤ r ∧ r ≤ 1610) ∨ r = 1564 then 2
 else if 48 ≤ r ∧ r ≤ 57 then 3
 else if r = 43 ∨ r = 45 then 4
 else if 1632 ≤ r ∧ r ≤ 1641 then 6
 else if (768 ≤ r ∧ r ≤ 879) ∨ (1611 ≤ r ∧ r ≤ 1618) then 8
 else if r = 173 ∨ r = 8203 then 9
 else if r = 9 then 10
 else if r = 32 ∨ r = 8195 then 11
 else if 8294 ≤ r ∧ r ≤ 8297 then 18 + r - 8294
 else if amongB r [35, 36, 37, 8364] = true then 5
 else if amongB r [44, 46, 47, 58] = true then 7
 else if amongB r (bytesI { data := #[33, 34, 38, 39, 40, 41, 42, 59, 60, 61, 62, 63, 64, 91, 92, 93, 94, 95, 96, 123, 124, 125, 126] }) = true ∨ amongB r [9001, 9002, 12296, 12297] = true then 12
 else if r = 8234 then 13
 else if r = 8235 then 14
 else if r = 8237 then 15
 else if r = 8238 then 16
 else if r = 8236 then 17
 else 0
theorem cls_0 {r : Int} (h : (1488 ≤ r ∧ r ≤ 1514) ∨ r = 8207) : cls r = 1 := by
 unfold cls
 rw [if_pos h]
theorem cls_1 {r : Int} (h : (1575 ≤ r ∧ r ≤ 1610) ∨ r = 1564) : cls r = 2 := by
 unfold cls
 rw [if_neg (by omega)]
 rw [if_pos h]
theorem cls_2 {r : Int} (h : 48 ≤ r ∧ r ≤ 57) : cls r = 3 := by
 unfold cls
 rw [if_neg (by omega)]
 rw [if_neg (by omega)]
 rw [if_pos h]
theorem cls_3 {r : Int} (h : r = 43 ∨ r = 45) : cls r = 4 := by
 unfold cls
 rw [if_neg (by omega)]
 rw [if_neg (by omega)]
 rw [if_neg (by omega)]
 rw [if_pos h]
theorem cls_4 {r : Int} (h : 1632 ≤ r ∧ r ≤ 1641) : cls r = 6 := by
 unfold cls
 rw [if_neg (by omega)]
 rw [if_neg (by omega)]
 rw [if_neg (by omega)]
 rw [if_neg (by omega)]
 rw [if_pos h]
theorem cls_5 {r : Int} (h : (768 ≤ r ∧ r ≤ 879) ∨ (1611 ≤ r ∧ r ≤ 1618)) : cls r = 8 := by
 unfold cls
 rw [if_neg (by omega)]
 rw [if_neg (by omega)]
 rw [if_neg (by omega)]
 rw [if_neg (by omega)]
 rw [if_neg (by omega)]
 rw [if_pos h]
theorem cls_6 {r : Int} (h : r = 173 ∨ r = 8203) : cls r = 9 := by
 unfold cls
 rw [if_neg (by omega)]
 rw [if_neg (by omega)]
 rw [if_neg (by omega)]
 rw [if_neg (by omega)]
 rw [if_neg (by omega)]
 rw [if_neg (by omega)]
 rw [if_pos h]
theorem cls_7 {r : Int} (h : r = 9) : cls r = 10 := by
 unfold cls
 rw [if_neg (by omega)]
 rw [if_neg (by omega)]
 rw [if_neg (by omega)]
 rw [if_neg (by omega)]
 rw [if_neg (by omega)]
 rw [if_neg (by omega)]
 rw [if_neg (by omega)]
 rw [if_pos h]
theorem cls_8 {r : Int} (h : r = 32 ∨ r = 8195) : cls r = 11 := by
 unfold cls
 rw [if_neg (by omega)]
 rw [if_neg (by omega)]
 rw [if_neg (by omega)]
 rw [if_neg (by omega)]
 rw [if_neg (by omega)]
 rw [if_neg (by omega)]
 rw [if_neg (by omega)]
 rw [if_neg (by omega)]
 rw [if_pos h]
theorem cls_9 {r : Int} (h : 8294 ≤ r ∧ r ≤ 8297) : cls r = 18 + r - 8294 := by
 unfold cls
 rw [if_neg (by omega)]
 rw [if_neg (by omega)]
 rw [if_neg (by omega)]
 rw [if_neg (by omega)]
 rw [if_neg (by omega)]
 rw [if_neg (by omega)]
 rw [if_neg (by omega)]
 rw [if_neg (by omega)]
 rw [if_neg (by omega)]
 rw [if_pos h]
def Between (r : Int) : Prop := ¬ ((1488 ≤ r ∧ r ≤ 1514) ∨ r = 8207) ∧ ¬ ((1575 ≤ r ∧ r ≤ 1610) ∨ r = 1564) ∧ ¬ (48 ≤ r ∧ r ≤ 57) ∧ ¬ (r = 43 ∨ r = 45) ∧ ¬ (1632 ≤ r ∧ r ≤ 1641) ∧ ¬ ((768 ≤ r ∧ r ≤ 879) ∨ (1611 ≤ r ∧ r ≤ 1618)) ∧ ¬ (r = 173 ∨ r = 8203) ∧ ¬ r = 9 ∧ ¬ (r = 32 ∨ r = 8195) ∧ ¬ (8294 ≤ r ∧ r ≤ 8297)
theorem cls_between {r : Int} (h : Between r) : cls r = if amongB r [35, 36, 37, 8364] = true then 5
 else if amongB r [44, 46, 47, 58] = true then 7
 else if amongB r (bytesI { data := #[33, 34, 38, 39, 40, 41, 42, 59, 60, 61, 62, 63, 64, 91, 92, 93, 94, 95, 96, 123, 124, 125, 126] }) = true ∨ amongB r [9001, 9002, 12296, 12297] = true then 12
 else if r = 8234 then 13
 else if r = 8235 then 14
 else if r = 8237 then 15
 else if r = 8238 then 16
 else if r = 8236 then 17
 else 0 := by
 obtain ⟨h1, h2, h3, h4, h5, h6, h7, h8, h9, h10⟩ := h
 unfold cls
 rw [if_neg h1, if_neg h2, if_neg h3, if_neg h4, if_neg h5, if_neg h6, if_neg h7, if_neg h8, if_neg h9, if_neg h10]
end Go.Proofs.YtkbinfhclaafhaaGreatDoor
namespace Go.Proofs.YtkbinfhclaafhaaGreatDoor
open Go.RowKit
set_option maxHeartbeats 1000000 in
theorem isolate_any (c : Int) (w : World) : Calls Tryz.prog 114 #[.int .i64 c] w fun e w' => e = .returned (.bool (isoB c)) ∧ w' = w := by
 obtain ⟨q, hq⟩ : ∃ q, q = isoB c := ⟨_, rfl⟩
 rw [← hq]
 have HQ : Hid (q = isoB c) := hq
 clear hq
 by_cases h1 : (c == 18) = true
 ·go_enter Tryz.func114, Tryz.ntmps114
  go_wp2
  go_ret
  exact ⟨ret_bool (by rw [HQ.out, isoB, h1]; rfl), rfl⟩
 have h1 : (c == 18) = false := by simpa using h1
 by_cases h2 : (c == 19) = true
 ·go_enter Tryz.func114, Tryz.ntmps114
  go_wp2
  go_ret
  exact ⟨ret_bool (by rw [HQ.out, isoB, h1, h2]; rfl), rfl⟩
 have h2 : (c == 19) = false := by simpa using h2
 go_enter Tryz.func114, Tryz.ntmps114
 go_wp2
 go_ret
 exact ⟨ret_bool (by rw [HQ.out, isoB, h1, h2]; rfl), rfl⟩
set_option maxHeartbeats 2000000 in
theorem matching_row (cs : List Int) (i b off cap len : Nat) (w : World) (hl : cs.length = len) (hn : len ≤ 1000000) (hi : i ≤ len) (hc : IntsAt w b off cs) :
  Calls Tryz.prog 115 #[.slice (some ⟨b, off, none⟩) len cap, .int .i64 i] w fun e w' => e = .returned (.int .i64 (mt cs i)) ∧ w' = w := by
 have HC : Hid (IntsAt w b off cs) := hc
 have HL : Hid (cs.length = len) := hl
 have HS : Hid (MtTo cs i i 0) := MtTo.start cs i (by omega)
 clear hc hl
 go_enter Tryz.func115, Tryz.ntmps115
 go_wp2
 go_loop [5, 6] (fun n k => ∃ (m : Nat) (z : Int), m ≤ len ∧ k = .int .i64 m ∧ n = .int .i64 z ∧ -(m : Int) ≤ z ∧ z ≤ m ∧ MtTo cs i m z) (fun _ k => len - (intOf k).toNat)
 case atStart => exact ⟨i, 0, hi, rfl, rfl, by omega, by omega, HS.out⟩
 case round =>
  obtain ⟨m, z, hm, rfl, rfl, hz1, hz2, hT⟩ := hrel
  have HT : Hid (MtTo cs i m z) := hT
  clear hT HS
  by_cases hlt : m < len
  ·have hcell := HC.out m (by rw [HL.out]; exact hlt)
   obtain ⟨c, hx⟩ : ∃ c, c = cs.getD m 0 := ⟨_, rfl⟩
   rw [← hx] at hcell
   have HX : Hid (c = cs.getD m 0) := hx
   have HK : Hid (m < cs.length) := by show m < cs.length; rw [HL.out]; exact hlt
   clear hx
   by_cases h21 : c = 21
   ·have HI : Hid (Calls Tryz.prog 114 #[.int .i64 c] w fun e w' => e = .returned (.bool false) ∧ w' = w) := by
     have := isolate_any c w; rw [h21, isoB_pdi] at this; rw [h21]; exact this
    have HE : Hid (c = 21) := h21
    have h21' : (c == 21) = true := by simpa using h21
    clear h21
    by_cases hz0 : z - 1 = 0
    ·have hz0' : (z - 1 == 0) = true := by simpa using hz0
     have HZ : Hid (z - 1 = 0) := hz0
     clear hz0
     go_wp2_with fail
     refine HI.out.mono ?_
     rintro e w' ⟨rfl, rfl⟩
     go_wp2
     go_ret
     refine ⟨ret_int ?_, rfl⟩
     rw [HT.out.hit HK.out (by rw [← HX.out]; exact HE.out) HZ.out]
    ·have hz0' : (z - 1 == 0) = false := by simpa using hz0
     have HZ : Hid (z - 1 ≠ 0) := hz0
     clear hz0
     go_wp2_with fail
     refine HI.out.mono ?_
     rintro e w' ⟨rfl, rfl⟩
     go_wp2
     go_round
     case rel => exact ⟨m + 1, z - 1, by omega, by go_num, rfl, by omega, by omega, HT.out.pdi HK.out (by rw [← HX.out]; exact HE.out) HZ.out⟩
     case measure => simp [intOf]; omega
   ·have HP : Hid (MtTo cs i (m + 1) (if isoB c = true then z + 1 else z)) := by
     have := HT.out.plain HK.out (by rw [← HX.out]; exact h21)
     rw [← HX.out] at this; exact this
    have h21' : (c == 21) = false := by simpa using h21
    clear h21
    go_wp2_with fail
    refine (isolate_any c w).mono ?_
    rintro e w' ⟨rfl, rfl⟩
    cases hq : isoB c
    ·have HP' : Hid (MtTo cs i (m + 1) z) := by have := HP.out; rw [hq] at this; exact this
     clear hq HP
     go_wp2
     go_round
     case rel => exact ⟨m + 1, z, by omega, by go_num, rfl, by omega, by omega, HP'.out⟩
     case measure => simp [intOf]; omega
    ·have HP' : Hid (MtTo cs i (m + 1) (z + 1)) := by have := HP.out; rw [hq] at this; exact this
     clear hq HP
     go_wp2
     go_round
     case rel => exact ⟨m + 1, z + 1, by omega, by go_num, rfl, by omega, by omega, HP'.out⟩
     case measure => simp [intOf]; omega
  ·have HM : Hid (mt cs i = len) := by show mt cs i = len; rw [← HL.out]; exact HT.out.stop (by rw [HL.out]; exact hlt)
   go_wp2
   go_ret
   exact ⟨ret_int (by rw [HM.out]), rfl⟩
end Go.Proofs.YtkbinfhclaafhaaGreatDoor
namespace Go.Proofs.YtkbinfhclaafhaaGreatDoor
open Go.RowKit
def FoundTo (cs : List Int) (k : Nat) : Prop := ∃ f, cs.length ≤ k + f ∧ found cs = foundF cs f k
theorem FoundTo.start (cs : List Int) : FoundTo cs 0 := ⟨cs.length, by omega, rfl⟩
theorem FoundTo.open {cs : List Int} {k : Nat} (h : FoundTo cs k) (hk : k < cs.length) : found cs = (if cs.getD k 0 = 0 then 0 else if cs.getD k 0 = 1 ∨ cs.getD k 0 = 2 then 1 else if isoB (cs.getD k 0) = true then foundF cs cs.length (mt cs k + 1) else foundF cs cs.length (k + 1)) := by
 obtain ⟨f, hf, e⟩ := h
 cases f with
 | zero => omega
 | succ f =>
  rw [e, foundF, if_pos hk]
  have hm := mt_le cs k (by omega)
  rw [foundF_any cs f cs.length (mt cs k + 1) (by omega) (by omega), foundF_any cs f cs.length (k + 1) (by omega) (by omega)]
theorem FoundTo.stop {cs : List Int} {k : Nat} (h : FoundTo cs k) (hk : ¬ k < cs.length) : found cs = 0 := by
 obtain ⟨f, hf, e⟩ := h
 rw [e]
 cases f with
 | zero => rfl
 | succ f => rw [foundF, if_neg hk]
theorem FoundTo.zero {cs : List Int} {k : Nat} (h : FoundTo cs k) (hk : k < cs.length) (hc : cs.getD k 0 = 0) : found cs = 0 := by rw [h.open hk, if_pos hc]
theorem FoundTo.one {cs : List Int} {k : Nat} (h : FoundTo cs k) (hk : k < cs.length) (hc : cs.getD k 0 = 1 ∨ cs.getD k 0 = 2) : found cs = 1 := by rw [h.open hk, if_neg (by omega), if_pos hc]
theorem FoundTo.iso {cs : List Int} {k : Nat} (h : FoundTo cs k) (hk : k < cs.length) (h0 : ¬ cs.getD k 0 = 0) (h1 : ¬ (cs.getD k 0 = 1 ∨ cs.getD k 0 = 2)) (hi : isoB (cs.getD k 0) = true) : FoundTo cs (mt cs k + 1) :=
 ⟨cs.length, by omega, by rw [h.open hk, if_neg h0, if_neg h1, if_pos hi]⟩
theorem FoundTo.next {cs : List Int} {k : Nat} (h : FoundTo cs k) (hk : k < cs.length) (h0 : ¬ cs.getD k 0 = 0) (h1 : ¬ (cs.getD k 0 = 1 ∨ cs.getD k 0 = 2)) (hi : isoB (cs.getD k 0) = false) : FoundTo cs (k + 1) :=
 ⟨cs.length, by omega, by rw [h.open hk, if_neg h0, if_neg h1, if_neg (by rw [hi]; decide)]⟩
set_option maxHeartbeats 2000000 in
theorem found_row (cs : List Int) (b off cap len : Nat) (w : World) (hl : cs.length = len) (hn : len ≤ 1000000) (hc : IntsAt w b off cs) :
  Calls Tryz.prog 70 #[.slice (some ⟨b, off, none⟩) len cap] w fun e w' => e = .returned (.int .i64 (found cs)) ∧ w' = w := by
 have HC : Hid (IntsAt w b off cs) := hc
 have HL : Hid (cs.length = len) := hl
 clear hc hl
 go_enter Tryz.func70, Tryz.ntmps70
 go_wp2
 go_loop [3] (fun i => ∃ k : Nat, k ≤ len + 1 ∧ i = .int .i64 k ∧ FoundTo cs k) (fun i => len + 1 - (intOf i).toNat)
 case atStart => exact ⟨0, by omega, rfl, FoundTo.start cs⟩
 case round =>
  obtain ⟨k, hk, rfl, hT⟩ := hrel
  have HT : Hid (FoundTo cs k) := hT
  clear hT
  by_cases hlt : k < len
  ·have hcell := HC.out k (by rw [HL.out]; exact hlt)
   obtain ⟨c, hx⟩ : ∃ c, c = cs.getD k 0 := ⟨_, rfl⟩
   rw [← hx] at hcell
   have HX : Hid (c = cs.getD k 0) := hx
   have HK : Hid (k < cs.length) := by show k < cs.length; rw [HL.out]; exact hlt
   clear hx
   by_cases h0 : c = 0
   ·have HV : Hid (found cs = 0) := HT.out.zero HK.out (by rw [← HX.out]; exact h0)
    have h0' : (c == 0) = true := by simpa using h0
    clear h0
    go_wp2
    go_ret
    exact ⟨ret_int (by rw [HV.out]), rfl⟩
   have h0' : (c == 0) = false := by simpa using h0
   by_cases h1 : c = 1
   ·have HV : Hid (found cs = 1) := HT.out.one HK.out (by rw [← HX.out]; exact .inl h1)
    have h1' : (c == 1) = true := by simpa using h1
    clear h0 h1
    go_wp2
    go_ret
    exact ⟨ret_int (by rw [HV.out]), rfl⟩
   have h1' : (c == 1) = false := by simpa using h1
   by_cases h2 : c = 2
   ·have HV : Hid (found cs = 1) := HT.out.one HK.out (by rw [← HX.out]; exact .inr h2)
    have h2' : (c == 2) = true := by simpa using h2
    clear h0 h1 h2
    go_wp2
    go_ret
    exact ⟨ret_int (by rw [HV.out]), rfl⟩
   have h2' : (c == 2) = false := by simpa using h2
   have HI0 : Hid (¬ cs.getD k 0 = 0) := by show ¬ _; rw [← HX.out]; exact h0
   have HI1 : Hid (¬ (cs.getD k 0 = 1 ∨ cs.getD k 0 = 2)) := by show ¬ _; rw [← HX.out]; omega
   clear h0 h1 h2
   go_wp2_with fail
   refine (isolate_any c w).mono ?_
   rintro e w' ⟨rfl, rfl⟩
   cases hq : isoB c
   ·have HN : Hid (FoundTo cs (k + 1)) := HT.out.next HK.out HI0.out HI1.out (by rw [← HX.out]; exact hq)
    clear hq
    go_wp2
    go_round
    case rel => exact ⟨k + 1, by omega, by go_num, HN.out⟩
    case measure => simp [intOf]; omega
   ·have HN : Hid (FoundTo cs (mt cs k + 1)) := HT.out.iso HK.out HI0.out HI1.out (by rw [← HX.out]; exact hq)
    have hm := mt_le cs k (Nat.le_of_lt HK.out)
    have HM : Hid (Calls Tryz.prog 115 #[.slice (some ⟨b, off, none⟩) len cap, .int .i64 k] w' fun e w2 => e = .returned (.int .i64 (mt cs k)) ∧ w2 = w') :=
     matching_row cs k b off cap len w' HL.out hn (by omega) HC.out
    rw [HL.out] at hm
    generalize mt cs k = q at *
    clear hq
    go_wp2_with fail
    refine HM.out.mono ?_
    rintro e w2 ⟨rfl, rfl⟩
    go_wp2
    go_round
    case rel => exact ⟨q + 1, by omega, by go_num, HN.out⟩
    case measure => simp [intOf]; omega
  ·have HV : Hid (found cs = 0) := HT.out.stop (by rw [HL.out]; exact hlt)
   go_wp2
   go_ret
   exact ⟨ret_int (by rw [HV.out]), rfl⟩
end Go.Proofs.YtkbinfhclaafhaaGreatDoor
namespace Go.Proofs.YtkbinfhclaafhaaGreatDoor
open Go.RowKit
set_option maxHeartbeats 1000000 in
theorem strong_any (c : Int) (w : World) : Calls Tryz.prog 192 #[.int .i64 c] w fun e w' => e = .returned (.int .i64 (strongS c)) ∧ w' = w := by
 obtain ⟨q, hq⟩ : ∃ q, q = strongS c := ⟨_, rfl⟩
 rw [← hq]
 have HQ : Hid (q = strongS c) := hq
 clear hq
 by_cases h0 : c = 0
 ·have HV : Hid (c = 0) := h0
  have h0' : (c == 0) = true := by simpa using h0
  clear h0
  go_enter Tryz.func192, Tryz.ntmps192
  go_wp2
  go_ret
  exact ⟨ret_int (by rw [HQ.out, strongS, if_pos HV.out]), rfl⟩
 have h0' : (c == 0) = false := by simpa using h0
 by_cases h1 : c = 1
 ·have HV : Hid (c = 1) := h1
  have HW : Hid (¬ c = 0) := h0
  have h1' : (c == 1) = true := by simpa using h1
  clear h0  h1
  go_enter Tryz.func192, Tryz.ntmps192
  go_wp2
  go_ret
  exact ⟨ret_int (by rw [HQ.out, strongS, if_neg HW.out, if_pos (by have := HV.out; omega)]), rfl⟩
 have h1' : (c == 1) = false := by simpa using h1
 by_cases h3 : c = 3
 ·have HV : Hid (c = 3) := h3
  have HW : Hid (¬ c = 0) := h0
  have h3' : (c == 3) = true := by simpa using h3
  clear h0 h1 h3
  go_enter Tryz.func192, Tryz.ntmps192
  go_wp2
  go_ret
  exact ⟨ret_int (by rw [HQ.out, strongS, if_neg HW.out, if_pos (by have := HV.out; omega)]), rfl⟩
 have h3' : (c == 3) = false := by simpa using h3
 by_cases h6 : c = 6
 ·have HV : Hid (c = 6) := h6
  have HW : Hid (¬ c = 0) := h0
  have h6' : (c == 6) = true := by simpa using h6
  clear h0 h1 h3 h6
  go_enter Tryz.func192, Tryz.ntmps192
  go_wp2
  go_ret
  exact ⟨ret_int (by rw [HQ.out, strongS, if_neg HW.out, if_pos (by have := HV.out; omega)]), rfl⟩
 have h6' : (c == 6) = false := by simpa using h6
 have HW : Hid (¬ c = 0) := h0
 have HX : Hid (¬ (c = 1 ∨ c = 3 ∨ c = 6)) := by show ¬ _; omega
 clear h0 h1 h3 h6
 go_enter Tryz.func192, Tryz.ntmps192
 go_wp2
 go_ret
 exact ⟨ret_int (by rw [HQ.out, strongS, if_neg HW.out, if_neg HX.out]), rfl⟩
set_option maxHeartbeats 1000000 in
theorem side_any (a b : Int) (w : World) (ha : 0 ≤ a) (ha' : a ≤ 1000) (hb : 0 ≤ b) (hb' : b ≤ 1000) : Calls Tryz.prog 189 #[.int .i64 a, .int .i64 b] w fun e w' => e = .returned (.int .i64 (sideS a b)) ∧ w' = w := by
 obtain ⟨q, hq⟩ : ∃ q, q = sideS a b := ⟨_, rfl⟩
 rw [← hq]
 have HQ : Hid (q = sideS a b) := hq
 clear hq
 by_cases h : a < b
 ·by_cases h1 : b % 2 = 1
  ·have h1' : (b % 2 == 1) = true := by simpa using h1
   have HV : Hid (b % 2 = 1) := h1
   clear h1
   go_enter Tryz.func189, Tryz.ntmps189
   go_wp2
   go_ret
   exact ⟨ret_int (by rw [HQ.out, sideS, if_pos h, if_pos HV.out]), rfl⟩
  ·have h1' : (b % 2 == 1) = false := by simpa using h1
   have HV : Hid (¬ b % 2 = 1) := h1
   clear h1
   go_enter Tryz.func189, Tryz.ntmps189
   go_wp2
   go_ret
   exact ⟨ret_int (by rw [HQ.out, sideS, if_pos h, if_neg HV.out]), rfl⟩
 ·by_cases h1 : a % 2 = 1
  ·have h1' : (a % 2 == 1) = true := by simpa using h1
   have HV : Hid (a % 2 = 1) := h1
   clear h1
   go_enter Tryz.func189, Tryz.ntmps189
   go_wp2
   go_ret
   exact ⟨ret_int (by rw [HQ.out, sideS, if_neg (by omega : ¬ a < b), if_pos HV.out]), rfl⟩
  ·have h1' : (a % 2 == 1) = false := by simpa using h1
   have HV : Hid (¬ a % 2 = 1) := h1
   clear h1
   go_enter Tryz.func189, Tryz.ntmps189
   go_wp2
   go_ret
   exact ⟨ret_int (by rw [HQ.out, sideS, if_neg (by omega : ¬ a < b), if_neg HV.out]), rfl⟩
set_option maxHeartbeats 1000000 in
theorem implicit_any (c l : Int) (w : World) (hl : 0 ≤ l) (hl' : l ≤ 1000) : Calls Tryz.prog 128 #[.int .i64 c, .int .i64 l] w fun e w' => e = .returned (.int .i64 (implS c l)) ∧ w' = w := by
 obtain ⟨q, hq⟩ : ∃ q, q = implS c l := ⟨_, rfl⟩
 rw [← hq]
 have HQ : Hid (q = implS c l) := hq
 clear hq
 by_cases h : l % 2 = 0
 ·have h' : (l % 2 == 0) = true := by simpa using h
  have HV : Hid (l % 2 = 0) := h
  clear h
  by_cases h1 : c = 1
  ·have h1' : (c == 1) = true := by simpa using h1
   have HW : Hid (c = 1) := h1
   clear h1
   go_enter Tryz.func128, Tryz.ntmps128
   go_wp2
   go_ret
   exact ⟨ret_int (by rw [HQ.out, implS, if_pos HV.out, if_pos HW.out]), rfl⟩
  have h1' : (c == 1) = false := by simpa using h1
  by_cases h6 : c = 6
  ·have h6' : (c == 6) = true := by simpa using h6
   have HW : Hid (c = 6) := h6
   have HX : Hid (¬ c = 1) := h1
   clear h1 h6
   go_enter Tryz.func128, Tryz.ntmps128
   go_wp2
   go_ret
   exact ⟨ret_int (by rw [HQ.out, implS, if_pos HV.out, if_neg HX.out, if_pos (by have := HW.out; omega)]), rfl⟩
  have h6' : (c == 6) = false := by simpa using h6
  by_cases h3 : c = 3
  ·have h3' : (c == 3) = true := by simpa using h3
   have HW : Hid (c = 3) := h3
   have HX : Hid (¬ c = 1) := h1
   clear h1 h6 h3
   go_enter Tryz.func128, Tryz.ntmps128
   go_wp2
   go_ret
   exact ⟨ret_int (by rw [HQ.out, implS, if_pos HV.out, if_neg HX.out, if_pos (by have := HW.out; omega)]), rfl⟩
  have h3' : (c == 3) = false := by simpa using h3
  have HX : Hid (¬ c = 1) := h1
  have HY : Hid (¬ (c = 6 ∨ c = 3)) := by show ¬ _; omega
  clear h1 h6 h3
  go_enter Tryz.func128, Tryz.ntmps128
  go_wp2
  go_ret
  exact ⟨ret_int (by rw [HQ.out, implS, if_pos HV.out, if_neg HX.out, if_neg HY.out]), rfl⟩
 ·have h' : (l % 2 == 0) = false := by simpa using h
  have HV : Hid (¬ l % 2 = 0) := h
  clear h
  by_cases h1 : c = 1
  ·have h1' : (c == 1) = true := by simpa using h1
   have HW : Hid (c = 1) := h1
   clear h1
   go_enter Tryz.func128, Tryz.ntmps128
   go_wp2
   go_ret
   exact ⟨ret_int (by rw [HQ.out, implS, if_neg HV.out, if_pos HW.out]), rfl⟩
  ·have h1' : (c == 1) = false := by simpa using h1
   have HW : Hid (¬ c = 1) := h1
   clear h1
   go_enter Tryz.func128, Tryz.ntmps128
   go_wp2
   go_ret
   exact ⟨ret_int (by rw [HQ.out, implS, if_neg HV.out, if_neg HW.out]), rfl⟩
set_option maxHeartbeats 1000000 in
theorem loose_any (c : Int) (w : World) : Calls Tryz.prog 129 #[.int .i64 c] w fun e w' => e = .returned (.bool (looseB c)) ∧ w' = w := by
 obtain ⟨q, hq⟩ : ∃ q, q = looseB c := ⟨_, rfl⟩
 rw [← hq]
 have HQ : Hid (q = looseB c) := hq
 clear hq
 by_cases h1 : (c == 11) = true
 ·go_enter Tryz.func129, Tryz.ntmps129
  go_wp2
  go_ret
  exact ⟨ret_bool (by rw [HQ.out, looseB, h1]; rfl), rfl⟩
 have h1 : (c == 11) = false := by simpa using h1
 by_cases h2 : (c == 9) = true
 ·go_enter Tryz.func129, Tryz.ntmps129
  go_wp2
  go_ret
  exact ⟨ret_bool (by rw [HQ.out, looseB, h1, h2]; rfl), rfl⟩
 have h2 : (c == 9) = false := by simpa using h2
 go_enter Tryz.func129, Tryz.ntmps129
 go_wp2
 go_ret
 exact ⟨ret_bool (by rw [HQ.out, looseB, h1, h2]; rfl), rfl⟩
def openerF (cs : List Int) (i : Nat) : Nat → Int
 | 0 => -1
 | n + 1 => if isoB (cs.getD (i - (n + 1)) 0) = true ∧ mt cs (i - (n + 1)) = i then ((i - (n + 1) : Nat) : Int) else openerF cs i n
def opener (cs : List Int) (i : Nat) : Int := openerF cs i i
set_option maxHeartbeats 2000000 in
theorem opener_row (cs : List Int) (i b off cap len : Nat) (w : World) (hl : cs.length = len) (hn : len ≤ 1000000) (hi : i ≤ len) (hc : IntsAt w b off cs) :
  Calls Tryz.prog 122 #[.slice (some ⟨b, off, none⟩) len cap, .int .i64 i] w fun e w' => e = .returned (.int .i64 (opener cs i)) ∧ w' = w := by
 have HC : Hid (IntsAt w b off cs) := hc
 have HL : Hid (cs.length = len) := hl
 clear hc hl
 obtain ⟨q, hq⟩ : ∃ q, q = opener cs i := ⟨_, rfl⟩
 rw [← hq]
 have HQ : Hid (q = openerF cs i (i - 0)) := hq
 clear hq
 go_enter Tryz.func122, Tryz.ntmps122
 go_wp2
 go_loop [5] (fun k => ∃ m : Nat, m ≤ i ∧ k = .int .i64 m ∧ q = openerF cs i (i - m)) (fun k => i - (intOf k).toNat)
 case atStart => exact ⟨0, by omega, rfl, HQ.out⟩
 case round =>
  obtain ⟨m, hm, rfl, hT⟩ := hrel
  have HT : Hid (q = openerF cs i (i - m)) := hT
  clear hT HQ
  by_cases hlt : m < i
  ·have hcell := HC.out m (by rw [HL.out]; omega)
   obtain ⟨c, hx⟩ : ∃ c, c = cs.getD m 0 := ⟨_, rfl⟩
   rw [← hx] at hcell
   have HS : Hid (q = if isoB c = true ∧ mt cs m = i then (m : Int) else openerF cs i (i - (m + 1))) := by
    have := HT.out
    rw [show i - m = (i - (m + 1)) + 1 by omega, openerF, show i - (i - (m + 1) + 1) = m by omega, ← hx] at this
    exact this
   clear hx HT
   have hml : (m : Int) < (len : Int) := by omega
   go_wp2_with fail
   refine (isolate_any c w).mono ?_
   rintro e w' ⟨rfl, rfl⟩
   cases hq : isoB c
   ·have HN : Hid (q = openerF cs i (i - (m + 1))) := by have := HS.out; rw [hq, if_neg (by simp)] at this; exact this
    clear hq HS
    go_wp2
    go_round
    case rel => exact ⟨m + 1, by omega, by go_num, HN.out⟩
    case measure => simp [intOf]; omega
   ·have HM : Hid (Calls Tryz.prog 115 #[.slice (some ⟨b, off, none⟩) len cap, .int .i64 m] w' fun e w2 => e = .returned (.int .i64 (mt cs m)) ∧ w2 = w') :=
     matching_row cs m b off cap len w' HL.out hn (by omega) HC.out
    have hmm := mt_le cs m (by rw [HL.out]; omega)
    have HS' : Hid (q = if mt cs m = i then (m : Int) else openerF cs i (i - (m + 1))) := by
     have := HS.out; rw [hq] at this; show q = _; simpa using this
    generalize mt cs m = z at *
    clear hq HS
    by_cases hz : z = i
    ·have HV : Hid (q = (m : Int)) := by have := HS'.out; rw [if_pos hz] at this; exact this
     have hz' : ((z : Int) == (i : Int)) = true := by simp [hz]
     clear hz HS'
     go_wp2_with fail
     refine HM.out.mono ?_
     rintro e w2 ⟨rfl, rfl⟩
     go_wp2
     go_ret
     exact ⟨ret_int (by rw [HV.out]), rfl⟩
    ·have HV : Hid (q = openerF cs i (i - (m + 1))) := by have := HS'.out; rw [if_neg hz] at this; exact this
     have hz' : ((z : Int) == (i : Int)) = false := by simp; omega
     clear hz HS'
     go_wp2_with fail
     refine HM.out.mono ?_
     rintro e w2 ⟨rfl, rfl⟩
     go_wp2
     go_round
     case rel => exact ⟨m + 1, by omega, by go_num, HV.out⟩
     case measure => simp [intOf]; omega
  ·have HV : Hid (q = -1) := by have := HT.out; rw [show i - m = 0 by omega] at this; exact this
   go_wp2
   go_ret
   exact ⟨ret_int (by rw [HV.out]), rfl⟩
end Go.Proofs.YtkbinfhclaafhaaGreatDoor
namespace Go.Proofs.YtkbinfhclaafhaaGreatDoor
open Go.RowKit
structure Ent where
 l : Int
 o : Int
 i : Bool
def Ent.cells (e : Ent) : List Value := [.int .i64 e.l, .int .i64 e.o, .bool e.i]
def entsV (st : List Ent) : List Value := st.flatMap Ent.cells
theorem entsV_length (st : List Ent) : (entsV st).length = st.length * 3 := by
 induction st with
 | nil => rfl
 | cons e r ih => simp only [entsV, List.flatMap_cons, List.length_append] at ih ⊢; rw [ih]; simp [Ent.cells]; omega
theorem entsV_snoc (st : List Ent) (e : Ent) : entsV (st ++ [e]) = entsV st ++ e.cells := by simp [entsV]
theorem entsV_last (st : List Ent) (e : Ent) (j : Nat) (hj : j < 3) : (entsV (st ++ [e]))[st.length * 3 + j]? = e.cells[j]? := by
 rw [entsV_snoc, List.getElem?_append_right (by rw [entsV_length]; omega), entsV_length]
 congr 1; omega
structure StAt (w : World) (B s : Nat) (v : Value) (st : List Ent) (isos embs valid : Int) : Prop where
 cell : w.heap[s]? = some (.cells #[v, .int .i64 isos, .int .i64 embs, .int .i64 valid] 184 (0, 0))
 row : w.ownsRow B 181 3 v st.length (entsV st)
 low : B ≤ s
theorem heap_cell {w : World} {s : Nat} {cs : Array Value} {t : TypeId} {fr : Nat × Nat} (h : w.heap[s]? = some (.cells cs t fr)) (j : Nat) : w.cell? ⟨s, j, none⟩ = cs[j]? := by simp [World.cell?, h]
theorem heap_free {w : World} {s : Nat} {cs : Array Value} {t : TypeId} (h : w.heap[s]? = some (.cells cs t (0, 0))) (j : Nat) : w.frozen? ⟨s, j, none⟩ = false := by simp [World.frozen?, h]
theorem Tryz.entL (l o : Int) (i : Bool) (w : World) : (Instr.field 181 (.agg #[.int .i64 l, .int .i64 o, .bool i]) 0).run Tryz.prog w = .ok (.int .i64 l) w := by kernel_rfl
theorem Tryz.entI (l o : Int) (i : Bool) (w : World) : (Instr.field 181 (.agg #[.int .i64 l, .int .i64 o, .bool i]) 2).run Tryz.prog w = .ok (.bool i) w := by kernel_rfl
set_option maxHeartbeats 2000000 in
theorem top_any (w : World) (B s : Nat) (v : Value) (st : List Ent) (e : Ent) (isos embs valid : Int) (h : StAt w B s v (st ++ [e]) isos embs valid) (hn : st.length ≤ 1000000) :
  Calls Tryz.prog 117 #[.pointer (some ⟨s, 0, none⟩)] w fun ev w' => ev = .returned (.agg #[.int .i64 e.l, .int .i64 e.o, .bool e.i]) ∧ Below w.heap.size w w' := by
 have hc := heap_cell h.cell
 have h0 : w.cell? ⟨s, 0, none⟩ = some v := hc 0
 have hs : s < w.heap.size := by
  rcases Nat.lt_or_ge s w.heap.size with h' | h'
  ·exact h'
  ·have := h.cell; rw [Array.getElem?_eq_none h'] at this; cases this
 obtain ⟨g, cap, hv, hg, e0, e1, e2⟩ : ∃ g cap, v = .slice (some ⟨g, 0, none⟩) (st.length + 1) cap ∧ g < w.heap.size ∧ w.cell? ⟨g, st.length * 3, none⟩ = some (.int .i64 e.l) ∧ w.cell? ⟨g, st.length * 3 + 1, none⟩ = some (.int .i64 e.o) ∧ w.cell? ⟨g, st.length * 3 + 2, none⟩ = some (.bool e.i) := by
  have hrow := h.row
  rcases hrow.2 with ⟨_, h0⟩ | ⟨g, cap, cur, rfl, _, hh, _⟩
  ·simp at h0
  ·have hg := (hrow.lt g rfl).2
   have q0 := hrow.cellAt (st.length * 3) (by simp <;> omega)
   have q1 := hrow.cellAt (st.length * 3 + 1) (by simp <;> omega)
   have q2 := hrow.cellAt (st.length * 3 + 2) (by simp <;> omega)
   rw [show st.length * 3 = st.length * 3 + 0 from rfl, entsV_last st e 0 (by omega)] at q0
   rw [entsV_last st e 1 (by omega)] at q1
   rw [entsV_last st e 2 (by omega)] at q2
   exact ⟨g, cap, by simp, hg, q0, q1, q2⟩
 subst hv
 obtain ⟨n, hnn⟩ : ∃ n, n = st.length := ⟨_, rfl⟩
 rw [← hnn] at h0 e0 e1 e2 hn
 clear hc h hnn
 go_enter Tryz.func117, Tryz.ntmps117
 go_wp2
 go_region
 go_wp2
 exact bodyPost_ret (v := .agg #[.int .i64 e.l, .int .i64 e.o, .bool e.i]) (by simp [results, Tryz.results117, go_sem]) rfl ⟨rfl, ((Below.refl _ _).alloc (Nat.le_refl _) _).drew⟩
structure XS where
 st : List Ent
 isos : Int
 embs : Int
 valid : Int
def nextL (l odd : Int) : Int := if (l + 1) % 2 = odd then l + 1 else l + 2
def topE (st : List Ent) : Ent := st.getLastD ⟨0, -1, false⟩
def freeX (x : XS) (n : Int) : Bool := decide (n ≤ 125) && (x.isos == 0 && x.embs == 0)
theorem StAt.below {w w' : World} {B s : Nat} {v : Value} {st : List Ent} {a b c : Int} (h : StAt w B s v st a b c) (hb : Below w.heap.size w w') : StAt w' B s v st a b c :=
 ⟨by rw [hb.block s]; exact h.cell; rcases Nat.lt_or_ge s w.heap.size with h' | h'; exact h'; (have := h.cell; rw [Array.getElem?_eq_none h'] at this; cases this),
  h.row.kept ⟨hb.os, hb.tape, hb.output, hb.size, fun j hj _ => hb.block j hj⟩ (row := none) (by rcases h.row.2 with ⟨rfl, _⟩ | ⟨g, cp, cur, rfl, _⟩ <;> simp [Value.ownBlock]), h.low⟩
set_option maxRecDepth 100000 in
set_option maxHeartbeats 2000000 in
theorem next_any (w : World) (B s : Nat) (v : Value) (st : List Ent) (e : Ent) (isos embs valid odd : Int) (h : StAt w B s v (st ++ [e]) isos embs valid) (hn : st.length ≤ 1000000) (hl : 0 ≤ e.l) (hl' : e.l ≤ 1000) :
  Calls Tryz.prog 187 #[.pointer (some ⟨s, 0, none⟩), .int .i64 odd] w fun ev w' => ev = .returned (.int .i64 (nextL e.l odd)) ∧ Below w.heap.size w w' := by
 have HT : Hid (Calls Tryz.prog 117 #[.pointer (some ⟨s, 0, none⟩)] w fun ev w' => ev = .returned (.agg #[.int .i64 e.l, .int .i64 e.o, .bool e.i]) ∧ Below w.heap.size w w') := top_any w B s v st e isos embs valid h hn
 obtain ⟨l, o, i⟩ := e
 simp only at hl hl' HT ⊢
 obtain ⟨q, hq⟩ : ∃ q, q = nextL l odd := ⟨_, rfl⟩
 rw [← hq]
 have HQ : Hid (q = nextL l odd) := hq
 have fL := Tryz.entL
 clear h hq
 by_cases hp : (l + 1) % 2 = odd
 ·have HP : Hid ((l + 1) % 2 = odd) := hp
  have hp' : ((l + 1) % 2 != odd) = false := by simpa using hp
  clear hp
  go_enter Tryz.func187, Tryz.ntmps187
  go_wp2_with fail
  refine HT.out.mono ?_
  rintro e w1 ⟨rfl, hb⟩
  go_wp2
  go_ret
  exact ⟨ret_int (by rw [HQ.out, nextL, if_pos HP.out]), hb⟩
 ·have HP : Hid (¬ (l + 1) % 2 = odd) := hp
  have hp' : ((l + 1) % 2 != odd) = true := by simpa using hp
  clear hp
  go_enter Tryz.func187, Tryz.ntmps187
  go_wp2_with fail
  refine HT.out.mono ?_
  rintro e w1 ⟨rfl, hb⟩
  go_wp2
  go_ret
  exact ⟨ret_int (by rw [HQ.out, nextL, if_neg HP.out]; omega), hb⟩
set_option maxHeartbeats 2000000 in
theorem free_any (w : World) (s : Nat) (v : Value) (isos embs valid n : Int) (st : List Ent) (h : w.heap[s]? = some (.cells #[v, .int .i64 isos, .int .i64 embs, .int .i64 valid] 184 (0, 0))) :
  Calls Tryz.prog 188 #[.pointer (some ⟨s, 0, none⟩), .int .i64 n] w fun ev w' => ev = .returned (.bool (freeX ⟨st, isos, embs, valid⟩ n)) ∧ w' = w := by
 have h1 : w.cell? ⟨s, 1, none⟩ = some (.int .i64 isos) := heap_cell h 1
 have h2 : w.cell? ⟨s, 2, none⟩ = some (.int .i64 embs) := heap_cell h 2
 obtain ⟨q, hq⟩ : ∃ q, q = freeX ⟨st, isos, embs, valid⟩ n := ⟨_, rfl⟩
 rw [← hq]
 have HQ : Hid (q = (decide (n ≤ 125) && (isos == 0 && embs == 0))) := hq
 clear h hq
 by_cases ha : n ≤ 125
 ·by_cases hb : (isos == 0) = true
  ·go_enter Tryz.func188, Tryz.ntmps188
   go_wp2
   go_ret
   exact ⟨ret_bool (by rw [HQ.out, hb, decide_eq_true ha]; rfl), rfl⟩
  ·have hb : (isos == 0) = false := by simpa using hb
   go_enter Tryz.func188, Tryz.ntmps188
   go_wp2
   go_ret
   exact ⟨ret_bool (by rw [HQ.out, hb, decide_eq_true ha]; rfl), rfl⟩
 ·have ha' : decide (n ≤ 125) = false := by simpa using ha
  go_enter Tryz.func188, Tryz.ntmps188
  go_wp2
  go_ret
  exact ⟨ret_bool (by rw [HQ.out, ha']; rfl), rfl⟩
end Go.Proofs.YtkbinfhclaafhaaGreatDoor
namespace Go.Proofs.YtkbinfhclaafhaaGreatDoor
open Go.RowKit
theorem heap_keep {w w' : World} (hb : Below w.heap.size w w') {k : Nat} {o : Obj} (h : w.heap[k]? = some o) : w'.heap[k]? = some o := by
 rw [hb.block k ?_]
 ·exact h
 ·rcases Nat.lt_or_ge k w.heap.size with h' | h'
  ·exact h'
  ·simp [Array.getElem?_eq_none h'] at h
theorem cell_keep {w w' : World} (hb : Below w.heap.size w w') {a : Addr} {v : Value} (h : w.cell? a = some v) : w'.cell? a = some v := by
 rw [← h]
 refine hb.cell ?_
 rcases Nat.lt_or_ge a.block w.heap.size with h' | h'
 ·exact h'
 ·simp [World.cell?, Array.getElem?_eq_none h'] at h
theorem wpList_push2 {P : Program} (w : World) {ops : Array Oper} {rest : List Oper} {o : Oper} {a : Act} {Q : Exit → Act → World → Prop} (hgd : o.guard = none) (s x : Operand) (t : TypeId)
  (ho : o.op = .call { callee := .builtin .append, args := #[s, x], argTypes := #[t, t] })
  (base : Nat) (e : TypeId) (i : TypeInfo) (z : Value) (bytes : Nat) (ht : P.underlying t = some (.slice e)) (hi : P.info? e = some i) (hz : i.zero = some z)
  (hsize : i.size = 1) (hby : i.bytes = bytes) (hzs : z.cells.size = 1) (hb64 : bytes ≤ 64)
  (v : Value) (n : Nat) (xs : List Value) (hs : a.eval s = v) (hown : w.ownsRow base e 1 v n xs)
  (y : Value) (e' : TypeId) (hx : a.eval x = .slice (some ⟨w.heap.size, 0, none⟩) 1 1) (h1 : y.oneCell' = true) (hn : n ≤ 1000000) (hbase : base ≤ w.heap.size)
  (h : ∀ v' w', w'.ownsRow base e 1 v' (n + 1) (xs ++ [y]) → w.grownBy w' v.ownBlock → wpList P ops Q rest (a.put o.dst v') w') : wpList P ops Q (o :: rest) a (w.alloc (.cells #[y] e')) := by
 refine wpList_append_own _ hgd s x t ho base e i z 1 bytes ht hi hz hsize hby hzs (by decide) v n xs hs (hown.alloc _) ⟨w.heap.size, 0, none⟩ 1 1 [y] hx rfl ?_ ?_ ?_ ?_ ?_ ?_
 ·intro j u hj
  match j, hj with
  | 0, hj => simp at hj; subst hj; simp [Addr.add]
 ·intro u hu; simp at hu; subst hu; exact h1
 ·unfold maxLen; omega
 ·have : (n + 1) * bytes ≤ 1000001 * 64 := Nat.mul_le_mul (by omega) hb64
  omega
 ·simp; omega
 ·intro v' w' h2 h3 _
  refine h v' w' h2 ⟨h3.os, h3.tape, h3.output, ?_, fun k hk hne => ?_⟩
  ·have := h3.size; simp at this; omega
  ·rw [h3.block k (by simp; omega) hne]
   exact Below.heap_alloc w _ k hk
theorem ownsRow_blocks {w w' : World} {base : Nat} {e : TypeId} {size : Nat} {v : Value} {n : Nat} {xs : List Value} (h : w.ownsRow base e size v n xs) (hb : ∀ k o, v.ownBlock = some k → w.heap[k]? = some o → w'.heap[k]? = some o) : w'.ownsRow base e size v n xs := by
 refine ⟨h.1, ?_⟩
 rcases h.2 with h | ⟨g, cap, cur, rfl, h2, h3, h4⟩
 ·exact .inl h
 ·exact .inr ⟨g, cap, cur, rfl, h2, hb g _ rfl h3, h4⟩
theorem own_ne_iter {w : World} {base : Nat} {e : TypeId} {size : Nat} {v : Value} {n : Nat} {xs : List Value} (h : w.ownsRow base e size v n xs) {K : Nat} {s : ByteArray} {p : Nat} (hk : w.heap[K]? = some (.stringIter s p)) : v.ownBlock ≠ some K := by
 rcases h.2 with ⟨rfl, _⟩ | ⟨g, cap, cur, rfl, h2, h3, h4⟩
 ·simp [Value.ownBlock]
 ·simp only [Value.ownBlock]
  intro e
  obtain rfl := Option.some.inj e
  rw [hk] at h3
  cases h3
end Go.Proofs.YtkbinfhclaafhaaGreatDoor
