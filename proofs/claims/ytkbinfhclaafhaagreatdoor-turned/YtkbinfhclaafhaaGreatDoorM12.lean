import Derived.Test.YtkbinfhclaafhaaGreatDoorM11
import Derived.BigQuiet
import Derived.Test.YtkbinfhclaafhaaGreatDoorM03
import Derived.ChangeKeysEq
import Derived.Test.YtkbinfhclaafhaaGreatDoorShelfS
import Derived.Test.YtkbinfhclaafhaaGreatDoorM04
import Derived.Shelf.SlSortCmp.NoneTotal
import Derived.Shelf.SlicesG.Cmp
import Derived.Test.YtkbinfhclaafhaaGreatDoorM08
namespace Go.Proofs.YtkbinfhclaafhaaGreatDoor
open Go.RowKit
theorem fill3_V (t : List Int) (k : Nat) : ∀ m, fill3 t k m = fillV t k 3 m
 | 0 => rfl
 | m + 1 => by rw [fill3, fillV, fill3_V t k m]
set_option maxRecDepth 100000 in
set_option maxHeartbeats 4000000 in
theorem set_any (w : World) (B sb gc n cc : Nat) (pv rv bv : Value) (lev sos eos : Int) (t : List Int) (h : SqC w B sb gc n cc pv rv bv lev sos eos t) (hn : n ≤ 1000) (a b : Nat) (c : Int) (hab : a ≤ b) (hb : b ≤ n) :
  Calls Tryz.prog 210 #[.pointer (some ⟨sb, 0, none⟩), .int .i64 a, .int .i64 b, .int .i64 c] w fun e w' => e = .returned (.tuple #[]) ∧ SqC w' B sb gc n cc pv rv bv lev sos eos (fillV t a c (b - a)) ∧ w.grownBy w' (some gc) := by
 have HS0 : Hid (SqC w B sb gc n cc pv rv bv lev sos eos t) := h
 clear h
 go_enter Tryz.func210, Tryz.ntmps210
 go_wp2
 go_loopg [8] (b - a) (fun gk iv wr => ∃ m : Nat, a + m ≤ b ∧ gk = b - a - m ∧ iv = .int .i64 ((a + m : Nat) : Int) ∧ SqC wr B sb gc n cc pv rv bv lev sos eos (fillV t a c m) ∧ w.grownBy wr (some gc))
 case atStart => exact ⟨0, by omega, rfl, rfl, HS0.out, World.grownBy.refl _ _⟩
 case round =>
  clear HS0
  obtain ⟨m, hm, rfl, rfl, hS, hG⟩ := hrel
  by_cases hlt : a + m < b
  ·have hcell := hS.at (a + m) (by omega)
   have hfr := hS.frozen (a + m)
   have c2 := hS.f2
   have HS : Hid (SqC wr B sb gc n cc pv rv bv lev sos eos (fillV t a c m)) := hS
   have HG : Hid (w.grownBy wr (some gc)) := hG
   have h1 : (a : Int) + (m : Int) < (b : Int) := by omega
   have h2 : (a : Int) + (m : Int) < (n : Int) := by omega
   clear hS hG
   generalize (fillV t a c m).getD (a + m) 0 = q at *
   go_wp2
   go_roundg (b - a - (m + 1))
   case measure => omega
   case rel => exact ⟨m + 1, by omega, rfl, by go_num, HS.out.set (a + m) c, HG.out.trans (HS.out.grown (a + m) c)⟩
  ·have h1 : ¬ (a : Int) + (m : Int) < (b : Int) := by omega
   have e : m = b - a := by omega
   have HS : Hid (SqC wr B sb gc n cc pv rv bv lev sos eos (fillV t a c (b - a))) := by rw [← e]; exact hS
   have HG : Hid (w.grownBy wr (some gc)) := hG
   clear hS hG
   go_wp2
   go_end0
   exact ⟨rfl, HS.out, HG.out⟩
theorem SqC.boxed {w : World} {B sb gc n cc bx : Nat} {pv rv bv : Value} {lev sos eos : Int} {t : List Int} (h : SqC w B sb gc n cc pv rv bv lev sos eos t) (hb : w.heap[bx]? = some (.cells #[.pointer (some ⟨sb, 0, none⟩)] 146 (0, 0))) : gc ≠ bx := by
 rcases h.row.2 with ⟨e, _⟩ | ⟨g, cp, cur, e, _, hh, _⟩
 ·cases e
 ·injection e with e1
  injection e1 with e4
  injection e4 with e5
  subst e5
  intro e
  rw [e, hb] at hh
  simp at hh
set_option maxRecDepth 100000 in
set_option maxHeartbeats 4000000 in
theorem isTerm_any (w : World) (B sb gc n cc bx : Nat) (pv rv bv : Value) (lev sos eos : Int) (t : List Int) (h : SqC w B sb gc n cc pv rv bv lev sos eos t) (hb : w.heap[bx]? = some (.cells #[.pointer (some ⟨sb, 0, none⟩)] 146 (0, 0))) (i : Nat) (hi : i < n) :
  Calls Tryz.prog 208 #[.int .i64 i, .pointer (some ⟨bx, 0, none⟩)] w fun e w' => e = .returned (.bool (t.getD i 0 == 5)) ∧ w' = w := by
 have c2 := h.f2
 have ci := h.at i hi
 have cb : w.cell? ⟨bx, 0, none⟩ = some (.pointer (some ⟨sb, 0, none⟩)) := heap_cell hb 0
 have hi' : (i : Int) < (n : Int) := by omega
 clear h hb
 generalize t.getD i 0 = c at *
 go_enter Tryz.func208, Tryz.ntmps208
 go_wp2
 go_ret
 exact ⟨rfl, rfl⟩
set_option maxRecDepth 100000 in
set_option maxHeartbeats 4000000 in
theorem tellTerm_any (w : World) (B sb gc n cc bx : Nat) (pv rv bv : Value) (lev sos eos : Int) (t : List Int) (h : SqC w B sb gc n cc pv rv bv lev sos eos t) (hn : n ≤ 1000) (hb : w.heap[bx]? = some (.cells #[.pointer (some ⟨sb, 0, none⟩)] 146 (0, 0))) (a b : Nat) (hab : a ≤ b) (hbn : b ≤ n) :
  Calls Tryz.prog 209 #[.int .i64 a, .int .i64 b, .pointer (some ⟨bx, 0, none⟩)] w fun e w' => e = .returned (.tuple #[]) ∧ SqC w' B sb gc n cc pv rv bv lev sos eos (if atP sos eos t ((a : Int) - 1) = 3 ∨ atP sos eos t b = 3 then fillV t a 3 (b - a) else t) ∧ w.grownBy w' (some gc) := by
 have cb : w.cell? ⟨bx, 0, none⟩ = some (.pointer (some ⟨sb, 0, none⟩)) := heap_cell hb 0
 have HA : Hid (∀ j : Int, Calls Tryz.prog 207 #[.pointer (some ⟨sb, 0, none⟩), .int .i64 j] w fun e w' => e = .returned (.int .i64 (atP sos eos t j)) ∧ w' = w) := fun j => at_any w B sb gc n cc pv rv bv lev sos eos t h j
 have HT : Hid (Calls Tryz.prog 210 #[.pointer (some ⟨sb, 0, none⟩), .int .i64 a, .int .i64 b, .int .i64 3] w fun e w' => e = .returned (.tuple #[]) ∧ SqC w' B sb gc n cc pv rv bv lev sos eos (fillV t a 3 (b - a)) ∧ w.grownBy w' (some gc)) := set_any w B sb gc n cc pv rv bv lev sos eos t h hn a b 3 hab hbn
 have HS : Hid (SqC w B sb gc n cc pv rv bv lev sos eos t) := h
 clear h hb
 have H1 : Hid (Calls Tryz.prog 207 #[.pointer (some ⟨sb, 0, none⟩), .int .i64 ((a : Int) - 1)] w fun e w' => e = .returned (.int .i64 (atP sos eos t ((a : Int) - 1))) ∧ w' = w) := HA.out _
 have H2 : Hid (Calls Tryz.prog 207 #[.pointer (some ⟨sb, 0, none⟩), .int .i64 b] w fun e w' => e = .returned (.int .i64 (atP sos eos t b)) ∧ w' = w) := HA.out _
 clear HA
 generalize atP sos eos t ((a : Int) - 1) = x at *
 generalize atP sos eos t b = y at *
 by_cases hx : x = 3
 ·rw [if_pos (.inl hx)]
  subst hx
  go_enter Tryz.func209, Tryz.ntmps209
  go_wp2_with fail
  refine H1.out.mono ?_
  rintro ev wx ⟨rfl, hx⟩
  have hx' := hx.symm
  subst hx'
  go_wp2_with fail
  refine HT.out.mono ?_
  rintro ev w2 ⟨rfl, hS2, hG2⟩
  have HS2 : Hid _ := hS2
  have HG2 : Hid (w.grownBy w2 (some gc)) := hG2
  clear hS2 hG2
  go_wp2
  go_end0
  exact ⟨rfl, HS2.out, HG2.out⟩
 ·have qx : (x == 3) = false := by simpa using hx
  by_cases hy : y = 3
  ·rw [if_pos (.inr hy)]
   subst hy
   go_enter Tryz.func209, Tryz.ntmps209
   go_wp2_with fail
   refine H1.out.mono ?_
   rintro ev wx ⟨rfl, hx⟩
   have hx' := hx.symm
   subst hx'
   go_wp2_with fail
   refine H2.out.mono ?_
   rintro ev wx ⟨rfl, hx⟩
   have hx' := hx.symm
   subst hx'
   go_wp2_with fail
   refine HT.out.mono ?_
   rintro ev w2 ⟨rfl, hS2, hG2⟩
   have HS2 : Hid _ := hS2
   have HG2 : Hid (w.grownBy w2 (some gc)) := hG2
   clear hS2 hG2
   go_wp2
   go_end0
   exact ⟨rfl, HS2.out, HG2.out⟩
  ·rw [if_neg (by omega)]
   have qy : (y == 3) = false := by simpa using hy
   go_enter Tryz.func209, Tryz.ntmps209
   go_wp2_with fail
   refine H1.out.mono ?_
   rintro ev wx ⟨rfl, hx⟩
   have hx' := hx.symm
   subst hx'
   go_wp2_with fail
   refine H2.out.mono ?_
   rintro ev wx ⟨rfl, hx⟩
   have hx' := hx.symm
   subst hx'
   go_wp2
   go_end0
   exact ⟨rfl, HS.out, World.grownBy.refl _ _⟩
theorem isNeut_any (w : World) (B sb gc n cc bx : Nat) (pv rv bv : Value) (lev sos eos : Int) (t : List Int) (h : SqC w B sb gc n cc pv rv bv lev sos eos t) (hb : w.heap[bx]? = some (.cells #[.pointer (some ⟨sb, 0, none⟩)] 146 (0, 0))) (i : Nat) (hi : i < n) :
  Calls Tryz.prog 214 #[.int .i64 i, .pointer (some ⟨bx, 0, none⟩)] w fun e w' => e = .returned (.bool (neutB (t.getD i 0))) ∧ w' = w := by
 have c2 := h.f2
 have ci := h.at i hi
 have cb : w.cell? ⟨bx, 0, none⟩ = some (.pointer (some ⟨sb, 0, none⟩)) := heap_cell hb 0
 have hi' : (i : Int) < (n : Int) := by omega
 clear h hb
 generalize t.getD i 0 = c at *
 go_enter Tryz.func214, Tryz.ntmps214
 go_wp2_with fail
 refine (bneutral_any c _).mono ?_
 rintro ev wx ⟨rfl, hx⟩
 have hx' := hx.symm
 subst hx'
 go_wp2
 go_ret
 exact ⟨rfl, rfl⟩
set_option maxRecDepth 100000 in
set_option maxHeartbeats 4000000 in
theorem tellNeut_any (w : World) (B sb gc n cc bx : Nat) (pv rv bv : Value) (lev sos eos : Int) (t : List Int) (h : SqC w B sb gc n cc pv rv bv lev sos eos t) (hn : n ≤ 1000) (hb : w.heap[bx]? = some (.cells #[.pointer (some ⟨sb, 0, none⟩)] 146 (0, 0))) (a b : Nat) (hab : a ≤ b) (hbn : b ≤ n) :
  Calls Tryz.prog 216 #[.int .i64 a, .int .i64 b, .pointer (some ⟨bx, 0, none⟩)] w fun e w' => e = .returned (.tuple #[]) ∧ SqC w' B sb gc n cc pv rv bv lev sos eos (if strongS (atP sos eos t ((a : Int) - 1)) = strongS (atP sos eos t b) then fillV t a (strongS (atP sos eos t ((a : Int) - 1))) (b - a) else t) ∧ w.grownBy w' (some gc) := by
 have cb : w.cell? ⟨bx, 0, none⟩ = some (.pointer (some ⟨sb, 0, none⟩)) := heap_cell hb 0
 have HA : Hid (∀ j : Int, Calls Tryz.prog 207 #[.pointer (some ⟨sb, 0, none⟩), .int .i64 j] w fun e w' => e = .returned (.int .i64 (atP sos eos t j)) ∧ w' = w) := fun j => at_any w B sb gc n cc pv rv bv lev sos eos t h j
 have HT : Hid (∀ d : Int, Calls Tryz.prog 210 #[.pointer (some ⟨sb, 0, none⟩), .int .i64 a, .int .i64 b, .int .i64 d] w fun e w' => e = .returned (.tuple #[]) ∧ SqC w' B sb gc n cc pv rv bv lev sos eos (fillV t a d (b - a)) ∧ w.grownBy w' (some gc)) := fun d => set_any w B sb gc n cc pv rv bv lev sos eos t h hn a b d hab hbn
 have HS : Hid (SqC w B sb gc n cc pv rv bv lev sos eos t) := h
 clear h hb
 have H1 : Hid (Calls Tryz.prog 207 #[.pointer (some ⟨sb, 0, none⟩), .int .i64 ((a : Int) - 1)] w fun e w' => e = .returned (.int .i64 (atP sos eos t ((a : Int) - 1))) ∧ w' = w) := HA.out _
 have H2 : Hid (Calls Tryz.prog 207 #[.pointer (some ⟨sb, 0, none⟩), .int .i64 b] w fun e w' => e = .returned (.int .i64 (atP sos eos t b)) ∧ w' = w) := HA.out _
 clear HA
 generalize atP sos eos t ((a : Int) - 1) = x at *
 generalize atP sos eos t b = y at *
 have HX : Hid (∀ W, Calls Tryz.prog 217 #[.int .i64 x] W fun e w' => e = .returned (.int .i64 (strongS x)) ∧ w' = W) := fun W => bside_any x W
 have HY : Hid (∀ W, Calls Tryz.prog 217 #[.int .i64 y] W fun e w' => e = .returned (.int .i64 (strongS y)) ∧ w' = W) := fun W => bside_any y W
 generalize strongS x = sx at *
 generalize strongS y = sy at *
 by_cases hx : sx = sy
 ·rw [if_pos hx]
  subst hx
  go_enter Tryz.func216, Tryz.ntmps216
  go_wp2_with fail
  refine H1.out.mono ?_
  rintro ev wx ⟨rfl, hx⟩
  have hx' := hx.symm
  subst hx'
  go_wp2_with fail
  refine (HX.out _).mono ?_
  rintro ev wx ⟨rfl, hx⟩
  have hx' := hx.symm
  subst hx'
  go_wp2_with fail
  refine H2.out.mono ?_
  rintro ev wx ⟨rfl, hx⟩
  have hx' := hx.symm
  subst hx'
  go_wp2_with fail
  refine (HY.out _).mono ?_
  rintro ev wx ⟨rfl, hx⟩
  have hx' := hx.symm
  subst hx'
  go_wp2_with fail
  refine (HT.out _).mono ?_
  rintro ev w2 ⟨rfl, hS2, hG2⟩
  have HS2 : Hid _ := hS2
  have HG2 : Hid (w.grownBy w2 (some gc)) := hG2
  clear hS2 hG2
  go_wp2
  go_end0
  exact ⟨rfl, HS2.out, HG2.out⟩
 ·rw [if_neg hx]
  have qx : (sx == sy) = false := by simpa using hx
  go_enter Tryz.func216, Tryz.ntmps216
  go_wp2_with fail
  refine H1.out.mono ?_
  rintro ev wx ⟨rfl, hx⟩
  have hx' := hx.symm
  subst hx'
  go_wp2_with fail
  refine (HX.out _).mono ?_
  rintro ev wx ⟨rfl, hx⟩
  have hx' := hx.symm
  subst hx'
  go_wp2_with fail
  refine H2.out.mono ?_
  rintro ev wx ⟨rfl, hx⟩
  have hx' := hx.symm
  subst hx'
  go_wp2_with fail
  refine (HY.out _).mono ?_
  rintro ev wx ⟨rfl, hx⟩
  have hx' := hx.symm
  subst hx'
  go_wp2
  go_end0
  exact ⟨rfl, HS.out, World.grownBy.refl _ _⟩
end Go.Proofs.YtkbinfhclaafhaaGreatDoor
namespace Go.Proofs.YtkbinfhclaafhaaGreatDoor
open Go.RowKit
def cntR (r : Int) : Int := if r = 9001 then 12296 else if r = 9002 then 12297 else r
def brT : List Int := [40, 41, 91, 93, 123, 125, 12296, 12297]
def brV : Array Value := #[.int .i32 40, .int .i32 41, .int .i32 91, .int .i32 93, .int .i32 123, .int .i32 125, .int .i32 12296, .int .i32 12297]
theorem idx_br : ∀ (k : Nat) (_ : k < 4) (w : World), (Instr.index 304 (.agg brV) (.int .i64 k)).run Tryz.prog w = .ok (.agg #[.int .i32 (brT.getD (2 * k) 0), .int .i32 (brT.getD (2 * k + 1) 0)]) w
 | 0, _, w => by kernel_rfl
 | 1, _, w => by kernel_rfl
 | 2, _, w => by kernel_rfl
 | 3, _, w => by kernel_rfl
 | k + 4, h, _ => by omega
theorem Tryz.sizeBr : (Tryz.prog.info? 304).map (·.size) = some brV.size := by kernel_rfl
set_option maxRecDepth 100000 in
set_option maxHeartbeats 2000000 in
theorem counted_any (r : Int) (w : World) : Calls Tryz.prog 266 #[.int .i32 r] w fun e w' => e = .returned (.int .i32 (cntR r)) ∧ w' = w := by
 unfold cntR
 by_cases h1 : r = 9001
 ·subst h1
  rw [if_pos rfl]
  go_enter Tryz.func266, Tryz.ntmps266
  go_wp2
  go_ret
  exact ⟨rfl, rfl⟩
 ·rw [if_neg h1]
  have q1 : (r == 9001) = false := by simpa using h1
  by_cases h2 : r = 9002
  ·subst h2
   rw [if_pos rfl]
   go_enter Tryz.func266, Tryz.ntmps266
   go_wp2
   go_ret
   exact ⟨rfl, rfl⟩
  ·rw [if_neg h2]
   have q2 : (r == 9002) = false := by simpa using h2
   go_enter Tryz.func266, Tryz.ntmps266
   go_wp2
   go_ret
   exact ⟨rfl, rfl⟩
def isBr (side : Nat) (r : Int) : Bool := cntR r == brT.getD side 0 || (cntR r == brT.getD (2 + side) 0 || (cntR r == brT.getD (4 + side) 0 || cntR r == brT.getD (6 + side) 0))
set_option maxRecDepth 100000 in
set_option maxHeartbeats 8000000 in
theorem isBr0_any (r : Int) (w : World) (tt : TypeId) (fr : Nat × Nat) (hsp : w.heap[11]? = some (.cells brV tt fr)) :
  Calls Tryz.prog 265 #[.int .i32 r, .int .i64 0] w fun e w' => e = .returned (.bool (isBr 0 r)) ∧ Below w.heap.size w w' := by
 have HI : Hid (∀ (k : Nat) (_ : k < 4) (w : World), (Instr.index 304 (.agg brV) (.int .i64 k)).run Tryz.prog w = .ok (.agg #[.int .i32 (brT.getD (2 * k) 0), .int .i32 (brT.getD (2 * k + 1) 0)]) w) := idx_br
 have HH : Hid (w.heap[11]? = some (.cells brV tt fr)) := hsp
 have HZ := Tryz.sizeBr
 clear hsp
 generalize brV = sv at HI HH HZ
 have HC : Hid (∀ W, Calls Tryz.prog 266 #[.int .i32 r] W fun e w' => e = .returned (.int .i32 (cntR r)) ∧ w' = W) := fun W => counted_any r W
 have HP : Hid (isBr 0 r = (cntR r == brT.getD 0 0 || (cntR r == brT.getD (2 + 0) 0 || (cntR r == brT.getD (4 + 0) 0 || cntR r == brT.getD (6 + 0) 0)))) := rfl
 generalize isBr 0 r = P at *
 generalize cntR r = c at *
 go_enter Tryz.func265, Tryz.ntmps265
 go_wp2_with (refine wpList_load_row rfl 304 _ rfl 11 rfl tt _ fr _ HH.out Tryz.underlying304 rfl HZ ?_)
 go_loopg [8] 4 (fun gk iv W => ∃ k : Nat, k ≤ 4 ∧ gk = 4 - k ∧ iv = .int .i64 k ∧ Below w.heap.size w W ∧ ∀ i, i < k → ¬ brT.getD (2 * i) 0 = c)
 case atStart => exact ⟨0, by omega, rfl, rfl, Below.refl _ _, fun i h => by omega⟩
 case round =>
  obtain ⟨k, hk, rfl, rfl, hb, hno⟩ := hrel
  have hbz := hb.size
  by_cases hlt : k < 4
  ·have hlt' : (k : Int) < 4 := by omega
   have hix := fun wx => HI.out k hlt wx
   have HN : Hid (∀ i, i < k → ¬ brT.getD (2 * i) 0 = c) := hno
   have HB : Hid (Below w.heap.size w wr) := hb
   clear hno hb
   by_cases he : brT.getD (2 * k) 0 = c
   ·have HQ : Hid (P = true) := by
     show _ = _
     rw [HP.out, ← he]
     match k, hlt with
     | 0, _ => rfl
     | 1, _ => rfl
     | 2, _ => rfl
     | 3, _ => rfl
    have qe : (brT.getD (2 * k) 0 == c) = true := by simpa using he
    clear he
    generalize brT.getD (2 * k + 1) 0 = b1 at *
    generalize brT.getD (2 * k) 0 = b0 at *
    go_wp2_with fail
    go_quiet (first | (go_at_call 266; refine Calls.quiet_of_same (HC.out _)))
    go_wp2
    go_ret
    exact ⟨ret_bool HQ.out.symm, below_drewN (HB.out.alloc hbz _) _⟩
   ·have qe : (brT.getD (2 * k) 0 == c) = false := by simpa using he
    have HN2 : Hid (∀ i, i < k + 1 → ¬ brT.getD (2 * i) 0 = c) := fun i hi => by
     rcases Nat.lt_or_ge i k with h | h
     ·exact HN.out i h
     ·rw [show i = k by omega]; exact he
    clear he
    generalize brT.getD (2 * k + 1) 0 = b1 at *
    generalize brT.getD (2 * k) 0 = b0 at *
    go_wp2_with fail
    go_quiet (first | (go_at_call 266; refine Calls.quiet_of_same (HC.out _)))
    go_wp2
    go_roundg (4 - (k + 1))
    case measure => omega
    case rel => exact ⟨k + 1, by omega, rfl, by go_num, below_drewN (HB.out.alloc hbz _) _, HN2.out⟩
  ·have hlt' : ¬ (k : Int) < 4 := by omega
   have HQ : Hid (P = false) := by
    show _ = _
    have e0 := hno 0 (by omega)
    have e1 := hno 1 (by omega)
    have e2 := hno 2 (by omega)
    have e3 := hno 3 (by omega)
    rw [HP.out]
    simp [brT] at e0 e1 e2 e3 ⊢
    omega
   have HB : Hid (Below w.heap.size w wr) := hb
   clear hno hb
   go_wp2
   go_ret
   exact ⟨ret_bool HQ.out.symm, HB.out⟩
set_option maxRecDepth 100000 in
set_option maxHeartbeats 8000000 in
theorem isBr1_any (r : Int) (w : World) (tt : TypeId) (fr : Nat × Nat) (hsp : w.heap[11]? = some (.cells brV tt fr)) :
  Calls Tryz.prog 265 #[.int .i32 r, .int .i64 1] w fun e w' => e = .returned (.bool (isBr 1 r)) ∧ Below w.heap.size w w' := by
 have HI : Hid (∀ (k : Nat) (_ : k < 4) (w : World), (Instr.index 304 (.agg brV) (.int .i64 k)).run Tryz.prog w = .ok (.agg #[.int .i32 (brT.getD (2 * k) 0), .int .i32 (brT.getD (2 * k + 1) 0)]) w) := idx_br
 have HH : Hid (w.heap[11]? = some (.cells brV tt fr)) := hsp
 have HZ := Tryz.sizeBr
 clear hsp
 generalize brV = sv at HI HH HZ
 have HC : Hid (∀ W, Calls Tryz.prog 266 #[.int .i32 r] W fun e w' => e = .returned (.int .i32 (cntR r)) ∧ w' = W) := fun W => counted_any r W
 have HP : Hid (isBr 1 r = (cntR r == brT.getD 1 0 || (cntR r == brT.getD (2 + 1) 0 || (cntR r == brT.getD (4 + 1) 0 || cntR r == brT.getD (6 + 1) 0)))) := rfl
 generalize isBr 1 r = P at *
 generalize cntR r = c at *
 go_enter Tryz.func265, Tryz.ntmps265
 go_wp2_with (refine wpList_load_row rfl 304 _ rfl 11 rfl tt _ fr _ HH.out Tryz.underlying304 rfl HZ ?_)
 go_loopg [8] 4 (fun gk iv W => ∃ k : Nat, k ≤ 4 ∧ gk = 4 - k ∧ iv = .int .i64 k ∧ Below w.heap.size w W ∧ ∀ i, i < k → ¬ brT.getD (2 * i + 1) 0 = c)
 case atStart => exact ⟨0, by omega, rfl, rfl, Below.refl _ _, fun i h => by omega⟩
 case round =>
  obtain ⟨k, hk, rfl, rfl, hb, hno⟩ := hrel
  have hbz := hb.size
  by_cases hlt : k < 4
  ·have hlt' : (k : Int) < 4 := by omega
   have hix := fun wx => HI.out k hlt wx
   have HN : Hid (∀ i, i < k → ¬ brT.getD (2 * i + 1) 0 = c) := hno
   have HB : Hid (Below w.heap.size w wr) := hb
   clear hno hb
   by_cases he : brT.getD (2 * k + 1) 0 = c
   ·have HQ : Hid (P = true) := by
     show _ = _
     rw [HP.out, ← he]
     match k, hlt with
     | 0, _ => rfl
     | 1, _ => rfl
     | 2, _ => rfl
     | 3, _ => rfl
    have qe : (brT.getD (2 * k + 1) 0 == c) = true := by simpa using he
    clear he
    generalize brT.getD (2 * k + 1) 0 = b1 at *
    generalize brT.getD (2 * k) 0 = b0 at *
    go_wp2_with fail
    go_quiet (first | (go_at_call 266; refine Calls.quiet_of_same (HC.out _)))
    go_wp2
    go_ret
    exact ⟨ret_bool HQ.out.symm, below_drewN (HB.out.alloc hbz _) _⟩
   ·have qe : (brT.getD (2 * k + 1) 0 == c) = false := by simpa using he
    have HN2 : Hid (∀ i, i < k + 1 → ¬ brT.getD (2 * i + 1) 0 = c) := fun i hi => by
     rcases Nat.lt_or_ge i k with h | h
     ·exact HN.out i h
     ·rw [show i = k by omega]; exact he
    clear he
    generalize brT.getD (2 * k + 1) 0 = b1 at *
    generalize brT.getD (2 * k) 0 = b0 at *
    go_wp2_with fail
    go_quiet (first | (go_at_call 266; refine Calls.quiet_of_same (HC.out _)))
    go_wp2
    go_roundg (4 - (k + 1))
    case measure => omega
    case rel => exact ⟨k + 1, by omega, rfl, by go_num, below_drewN (HB.out.alloc hbz _) _, HN2.out⟩
  ·have hlt' : ¬ (k : Int) < 4 := by omega
   have HQ : Hid (P = false) := by
    show _ = _
    have e0 := hno 0 (by omega)
    have e1 := hno 1 (by omega)
    have e2 := hno 2 (by omega)
    have e3 := hno 3 (by omega)
    rw [HP.out]
    simp [brT] at e0 e1 e2 e3 ⊢
    omega
   have HB : Hid (Below w.heap.size w wr) := hb
   clear hno hb
   go_wp2
   go_ret
   exact ⟨ret_bool HQ.out.symm, HB.out⟩
end Go.Proofs.YtkbinfhclaafhaaGreatDoor
namespace Go.Proofs.YtkbinfhclaafhaaGreatDoor
open Go.RowKit
theorem cntR_canon (r : Int) : cntR r = canon r := rfl
theorem isBr_opens (r : Int) : isBr 0 r = decide ((brk r).1 = 1) := by
 unfold isBr brk
 rw [cntR_canon]
 generalize canon r = c
 rw [Bool.eq_iff_iff]
 simp only [brT, List.getD_cons_zero, List.getD_cons_succ, Bool.or_eq_true, beq_iff_eq, decide_eq_true_eq]
 by_cases h : c = 40 ∨ c = 91 ∨ c = 123 ∨ c = 12296
 ·rw [if_pos h]
  simp
  exact h
 ·rw [if_neg h]
  constructor
  ·intro h2
   exact absurd h2 h
  ·intro h2
   split at h2
   ·cases h2
   ·split at h2
    ·cases h2
    ·split at h2
     ·cases h2
     ·split at h2 <;> cases h2
theorem isBr_closes (r : Int) : isBr 1 r = decide ((brk r).1 = 2) := by
 unfold isBr brk
 rw [cntR_canon]
 generalize canon r = c
 rw [Bool.eq_iff_iff]
 simp only [brT, List.getD_cons_zero, List.getD_cons_succ, Bool.or_eq_true, beq_iff_eq, decide_eq_true_eq]
 by_cases h : c = 40 ∨ c = 91 ∨ c = 123 ∨ c = 12296
 ·rw [if_pos h]
  simp
  omega
 ·rw [if_neg h]
  constructor
  ·intro h2
   rcases h2 with rfl | rfl | rfl | rfl <;> simp
  ·intro h2
   split at h2
   ·omega
   ·split at h2
    ·omega
    ·split at h2
     ·omega
     ·split at h2
      ·omega
      ·cases h2
set_option maxRecDepth 100000 in
theorem opens_any (r : Int) (w : World) (tt : TypeId) (fr : Nat × Nat) (hsp : w.heap[11]? = some (.cells brV tt fr)) :
  Calls Tryz.prog 243 #[.int .i32 r] w fun e w' => e = .returned (.bool (decide ((brk r).1 = 1))) ∧ Below w.heap.size w w' := by
 have HI : Hid (Calls Tryz.prog 265 #[.int .i32 r, .int .i64 0] w fun e w' => e = .returned (.bool (decide ((brk r).1 = 1))) ∧ Below w.heap.size w w') := by rw [← isBr_opens]; exact isBr0_any r w tt fr hsp
 clear hsp
 generalize decide ((brk r).1 = 1) = b at *
 go_enter Tryz.func243, Tryz.ntmps243
 go_wp2_with fail
 refine HI.out.mono ?_
 rintro ev w2 ⟨rfl, hb⟩
 have HB : Hid (Below w.heap.size w w2) := hb
 clear hb
 go_wp2
 go_ret
 exact ⟨rfl, HB.out⟩
set_option maxRecDepth 100000 in
theorem closes_any (r : Int) (w : World) (tt : TypeId) (fr : Nat × Nat) (hsp : w.heap[11]? = some (.cells brV tt fr)) :
  Calls Tryz.prog 245 #[.int .i32 r] w fun e w' => e = .returned (.bool (decide ((brk r).1 = 2))) ∧ Below w.heap.size w w' := by
 have HI : Hid (Calls Tryz.prog 265 #[.int .i32 r, .int .i64 1] w fun e w' => e = .returned (.bool (decide ((brk r).1 = 2))) ∧ Below w.heap.size w w') := by rw [← isBr_closes]; exact isBr1_any r w tt fr hsp
 clear hsp
 generalize decide ((brk r).1 = 2) = b at *
 go_enter Tryz.func245, Tryz.ntmps245
 go_wp2_with fail
 refine HI.out.mono ?_
 rintro ev w2 ⟨rfl, hb⟩
 have HB : Hid (Below w.heap.size w w2) := hb
 clear hb
 go_wp2
 go_ret
 exact ⟨rfl, HB.out⟩
end Go.Proofs.YtkbinfhclaafhaaGreatDoor
namespace Go.Proofs.YtkbinfhclaafhaaGreatDoor
def fitB (x y : Int) : Bool := (x == 40 && y == 41) || ((x == 91 && y == 93) || ((x == 123 && y == 125) || (x == 12296 && y == 12297)))
theorem fit_brk {a r : Int} (ha : (brk a).1 = 1) (hr : (brk r).1 = 2) : fitB (canon a) (canon r) = decide ((brk a).2 = (brk r).2) := by
 unfold brk at *
 generalize canon a = x at *
 generalize canon r = y at *
 by_cases hx : x = 40 ∨ x = 91 ∨ x = 123 ∨ x = 12296
 ·rw [if_pos hx]
  by_cases hy : y = 40 ∨ y = 91 ∨ y = 123 ∨ y = 12296
  ·rw [if_pos hy] at hr; cases hr
  ·rw [if_neg hy] at hr ⊢
   by_cases y1 : y = 41
   ·subst y1; unfold fitB; rcases hx with rfl | rfl | rfl | rfl <;> decide
   ·rw [if_neg y1] at hr ⊢
    by_cases y2 : y = 93
    ·subst y2; unfold fitB; rcases hx with rfl | rfl | rfl | rfl <;> decide
    ·rw [if_neg y2] at hr ⊢
     by_cases y3 : y = 125
     ·subst y3; unfold fitB; rcases hx with rfl | rfl | rfl | rfl <;> decide
     ·rw [if_neg y3] at hr ⊢
      by_cases y4 : y = 12297
      ·subst y4; unfold fitB; rcases hx with rfl | rfl | rfl | rfl <;> decide
      ·rw [if_neg y4] at hr; cases hr
 ·rw [if_neg hx] at ha
  exfalso
  split at ha
  ·cases ha
  ·split at ha
   ·cases ha
   ·split at ha
    ·cases ha
    ·split at ha <;> cases ha
def StO (rs : List Int) (st : List Nat) : Prop := ∀ a ∈ st, (brk (rs.getD a 0)).1 = 1
theorem StO.step {t rs : List Int} {i : Nat} {x y : List Nat × List (Nat × Nat)} (h : StO rs x.1) (hy : pairStep t rs i x = some y) : StO rs y.1 := by
 unfold pairStep at hy
 split at hy
 ·split at hy
  ·split at hy
   ·cases hy
   ·obtain rfl := Option.some.inj hy
    intro a ha
    simp at ha
    rcases ha with ha | rfl
    ·exact h a ha
    ·assumption
  ·split at hy
   ·split at hy
    ·obtain rfl := Option.some.inj hy
     exact fun a ha => h a (List.mem_of_mem_take ha)
    ·obtain rfl := Option.some.inj hy
     exact h
   ·obtain rfl := Option.some.inj hy
    exact h
 ·obtain rfl := Option.some.inj hy
  exact h
theorem pairF_go {t rs : List Int} {n i : Nat} {x y : List Nat × List (Nat × Nat)} (h : pairStep t rs i x = some y) : pairF t rs (n + 1) i x = pairF t rs n (i + 1) y := by
 rw [pairF, h]
theorem pairF_no {t rs : List Int} {n i : Nat} {x : List Nat × List (Nat × Nat)} (h : pairStep t rs i x = none) : pairF t rs (n + 1) i x = none := by
 rw [pairF, h]
end Go.Proofs.YtkbinfhclaafhaaGreatDoor
namespace Go.Proofs.YtkbinfhclaafhaaGreatDoor
open Go.RowKit
theorem Tryz.infoI32' : (Tryz.prog.info? 21).map (fun i => (i.zero, i.size, i.bytes)) = some (some (.int .i32 0), 1, 4) := by kernel_rfl
theorem Tryz.cellsI32 : Tryz.prog.cellsOf 21 = 1 := by kernel_rfl
theorem Tryz.undArr2 : Tryz.prog.underlying 303 = some (.array 2 21) := by kernel_rfl
theorem Tryz.undFit : Tryz.prog.underlying 285 = some (.map 303 305) := by kernel_rfl
theorem Tryz.part2 (a b : Int) (w : World) : (part 21 #[.int .i32 a, .int .i32 b] 0).run Tryz.prog w = .ok (.int .i32 a) w ∧ (part 21 #[.int .i32 a, .int .i32 b] 1).run Tryz.prog w = .ok (.int .i32 b) w := ⟨by kernel_rfl, by kernel_rfl⟩
theorem Tryz.eqArr2 (a b x y : Int) (w : World) : (Op.equal 303 (.agg #[.int .i32 a, .int .i32 b]) (.agg #[.int .i32 x, .int .i32 y])).run Tryz.prog w = .ok (a == x && b == y) w := by
 obtain ⟨i, hi, _⟩ := info_parts Tryz.infoI32'
 have r : ∀ (p q : Int) (w : World), (Op.equalIn 9999 21 (.int .i32 p) (.int .i32 q)).run Tryz.prog w = .ok (p == q) w := fun p q w => run_equalIn_int w 9998 21 .i32 .i32 p q Tryz.underlying21
 have e : List.range 2 = [0, 1] := rfl
 obtain ⟨p1, p2⟩ := Tryz.part2 a b w
 obtain ⟨q1, q2⟩ := Tryz.part2 x y w
 show (Op.equalIn 10000 _ _ _).run _ _ = _
 rw [run_equalIn_array w 9999 _ _ Tryz.undArr2 hi, e, Tryz.cellsI32]
 cases h1 : (a == x) <;> cases h2 : (b == y) <;> simp [Op.eqItems, p1, p2, q1, q2, r, h1, h2]
theorem Tryz.checkArr2 (em : Bool) (a b : Int) (w : World) : (Instr.checkKey em 10000 303 (.agg #[.int .i32 a, .int .i32 b])).run Tryz.prog w = .ok () w := by kernel_rfl
def fitK (k : Nat) : Value := .agg #[.int .i32 (brT.getD (2 * k) 0), .int .i32 (brT.getD (2 * k + 1) 0)]
def fitE (k : Nat) : List MapEntry := (List.range k).map fun i => ⟨fitK i, .agg #[], i⟩
def FitAt (w : World) (fb : Nat) : Prop := w.heap[fb]? = some (.map (fitE 4).toArray 4)
theorem fitE_succ (k : Nat) : (fitE k).toArray.push ⟨fitK k, .agg #[], k⟩ = (fitE (k + 1)).toArray := by
 simp [fitE, List.range_succ]
theorem find_fits (a b : Int) (w : World) : ∀ (l : List Nat) (i : Nat), ∃ r, (Instr.findAsking 303 (.agg #[.int .i32 a, .int .i32 b]) (l.map fun i => ⟨fitK i, .agg #[], i⟩) i).run Tryz.prog w = .ok r w ∧
  ((r = none ∧ ∀ j ∈ l, ¬ (brT.getD (2 * j) 0 = a ∧ brT.getD (2 * j + 1) 0 = b)) ∨ ∃ q, r = some (q, .agg #[]) ∧ ∃ j ∈ l, brT.getD (2 * j) 0 = a ∧ brT.getD (2 * j + 1) 0 = b)
 | [], i => ⟨none, run_find_nil w _ _ i, .inl ⟨rfl, by simp⟩⟩
 | j :: l, i => by
  obtain ⟨r, hr, h⟩ := find_fits a b w l (i + 1)
  have hq : (Op.equal 303 (.agg #[.int .i32 a, .int .i32 b]) (MapEntry.mk (fitK j) (.agg #[]) j).key).run Tryz.prog w = .ok (a == brT.getD (2 * j) 0 && b == brT.getD (2 * j + 1) 0) w := Tryz.eqArr2 a b (brT.getD (2 * j) 0) (brT.getD (2 * j + 1) 0) w
  rw [List.map_cons, run_find_cons i hq]
  clear hq
  by_cases he : a = brT.getD (2 * j) 0 ∧ b = brT.getD (2 * j + 1) 0
  ·rw [if_pos (by rw [Bool.and_eq_true, beq_iff_eq, beq_iff_eq]; exact he)]
   exact ⟨_, rfl, .inr ⟨i, rfl, j, by simp, he.1.symm, he.2.symm⟩⟩
  ·rw [if_neg (by rw [Bool.and_eq_true, beq_iff_eq, beq_iff_eq]; exact he)]
   refine ⟨r, hr, ?_⟩
   rcases h with ⟨rfl, h2⟩ | ⟨q, rfl, k, hk, h3⟩
   ·refine .inl ⟨rfl, fun k hk => ?_⟩
    rcases List.mem_cons.1 hk with rfl | hk
    ·exact fun h => he ⟨h.1.symm, h.2.symm⟩
    ·exact h2 k hk
   ·exact .inr ⟨q, rfl, k, by simp [hk], h3⟩
theorem findKey_fits (a b : Int) (w : World) (k : Nat) : (Instr.findKey 303 (.agg #[.int .i32 a, .int .i32 b]) (fitE k)).run Tryz.prog w = (Instr.findAsking 303 (.agg #[.int .i32 a, .int .i32 b]) (fitE k)).run Tryz.prog w := by
 cases k with
 | zero => simp [Instr.findKey, fitE, run_underlying Tryz.undArr2, Instr.findNow, Instr.findAsking]
 | succ k =>
  unfold fitE
  rw [List.range_succ_eq_map, List.map_cons]
  simp [Instr.findKey, run_underlying Tryz.undArr2, Instr.findNow, Instr.sameNow]
theorem fit_look (a b : Int) (w : World) (fb : Nat) (h : FitAt w fb) : (Instr.lookup 285 (.map (some fb)) (.agg #[.int .i32 a, .int .i32 b]) true).run Tryz.prog w = .ok (.tuple #[.agg #[], .bool (fitB a b)]) w := by
 have hf := findKey_fits a b w 4
 obtain ⟨r, hr, hc⟩ := find_fits a b w (List.range 4) 0
 have hz : (zeroValue 305).run Tryz.prog w = .ok (.agg #[]) w := by kernel_rfl
 rcases hc with ⟨rfl, h2⟩ | ⟨q, rfl, j, hj, h3⟩
 ·have e := run_look_none true Tryz.undFit hz h (fun em => Tryz.checkArr2 em a b w) (hf.trans hr)
  rw [e]
  have e0 := h2 0 (by simp)
  have e1 := h2 1 (by simp)
  have e2 := h2 2 (by simp)
  have e3 := h2 3 (by simp)
  have : fitB a b = false := by
   unfold fitB
   simp [brT] at e0 e1 e2 e3 ⊢
   omega
  rw [this]; rfl
 ·have e := run_look_some true Tryz.undFit h (fun em => Tryz.checkArr2 em a b w) (hf.trans hr)
  rw [e]
  have : fitB a b = true := by
   rw [← h3.1, ← h3.2]
   have hj4 : j < 4 := by simpa using hj
   match j, hj4 with
   | 0, _ => rfl
   | 1, _ => rfl
   | 2, _ => rfl
   | 3, _ => rfl
  rw [this]; rfl
theorem brT_ne : ∀ k, k < 4 → ∀ j, j < k → brT.getD (2 * j) 0 ≠ brT.getD (2 * k) 0 := by decide
theorem fit_store (k : Nat) (hk : k < 4) (w : World) (fb : Nat) (h : w.heap[fb]? = some (.map (fitE k).toArray k)) : (Instr.mapUpdate 285 (.map (some fb)) (.agg #[.int .i32 (brT.getD (2 * k) 0), .int .i32 (brT.getD (2 * k + 1) 0)]) (.agg #[])).run Tryz.prog w = .ok () (ChangeMaps.setBlock w fb (.map (fitE (k + 1)).toArray (k + 1))) := by
 obtain ⟨r, hr, hc⟩ := find_fits (brT.getD (2 * k) 0) (brT.getD (2 * k + 1) 0) w (List.range k) 0
 have hf := findKey_fits (brT.getD (2 * k) 0) (brT.getD (2 * k + 1) 0) w k
 rcases hc with ⟨rfl, _⟩ | ⟨q, rfl, j, hj, h3, h4⟩
 ·have e := run_store_new (val := .agg #[]) Tryz.undFit h (Tryz.checkArr2 false _ _ w) (hf.trans hr)
  rw [e, ← fitE_succ]; rfl
 ·exfalso
  have hj4 : j < k := by simpa using hj
  exact brT_ne k hk j hj4 h3
theorem below_setBlock {B fb : Nat} {w W : World} (h : Below B w W) (hb : B ≤ fb) (o : Obj) : Below B w (ChangeMaps.setBlock W fb o) :=
 h.trans ⟨rfl, rfl, rfl, by simp [ChangeMaps.setBlock], fun k hk => by simp [ChangeMaps.setBlock, Array.getElem?_setIfInBounds_ne (show fb ≠ k by omega)]⟩
theorem setBlock_same {W : World} {fb : Nat} {o o' : Obj} (h : W.heap[fb]? = some o) : (ChangeMaps.setBlock W fb o').heap[fb]? = some o' := by
 have := (Array.getElem?_eq_some_iff.1 h).1
 simp [ChangeMaps.setBlock, this]
set_option maxRecDepth 100000 in
set_option maxHeartbeats 8000000 in
theorem closings_any (w : World) (tt : TypeId) (fr : Nat × Nat) (hsp : w.heap[11]? = some (.cells brV tt fr)) :
  Calls Tryz.prog 242 #[] w fun e w' => e = .returned (.map (some w.heap.size)) ∧ FitAt w' w.heap.size ∧ Below w.heap.size w w' := by
 have HI : Hid (∀ (k : Nat) (_ : k < 4) (w : World), (Instr.index 304 (.agg brV) (.int .i64 k)).run Tryz.prog w = .ok (.agg #[.int .i32 (brT.getD (2 * k) 0), .int .i32 (brT.getD (2 * k + 1) 0)]) w) := idx_br
 have HH : Hid ((w.alloc (.map #[] 0)).heap[11]? = some (.cells brV tt fr)) := heap_keep ((Below.refl _ _).alloc (Nat.le_refl _) _) hsp
 have HZ := Tryz.sizeBr
 have HM : Hid ((w.alloc (.map #[] 0)).heap[w.heap.size]? = some (.map (fitE 0).toArray 0)) := Array.getElem?_push_size
 have HB1 : Hid (Below w.heap.size w (w.alloc (.map #[] 0))) := (Below.refl _ _).alloc (Nat.le_refl _) _
 have hmm := @run_makeMap Tryz.prog
 clear hsp
 generalize brV = sv at HI HH HZ
 go_enter Tryz.func242, Tryz.ntmps242
 go_wp2_with (refine wpList_load_row rfl 304 _ rfl 11 rfl tt _ fr _ HH.out Tryz.underlying304 rfl HZ ?_)
 generalize w.alloc (.map #[] 0) = W1 at *
 obtain ⟨fb, hfb⟩ : ∃ fb, fb = w.heap.size := ⟨_, rfl⟩
 have HF : Hid (w.heap.size ≤ fb ∧ fb = w.heap.size) := ⟨by omega, hfb⟩
 rw [← hfb] at HM ⊢
 rw [hfb]
 have HM' : Hid (W1.heap[fb]? = some (.map (fitE 0).toArray 0)) := HM
 clear HM hmm
 rw [← hfb]
 clear hfb
 go_loopg [6] 4 (fun gk iv W => ∃ k : Nat, k ≤ 4 ∧ gk = 4 - k ∧ iv = .int .i64 k ∧ Below w.heap.size w W ∧ W.heap[fb]? = some (.map (fitE k).toArray k))
 case atStart => exact ⟨0, by omega, rfl, rfl, HB1.out, HM'.out⟩
 case round =>
  clear HB1 HM'
  obtain ⟨k, hk, rfl, rfl, hb, hm⟩ := hrel
  have hbz := hb.size
  by_cases hlt : k < 4
  ·have hlt' : (k : Int) < 4 := by omega
   have hix := fun wx => HI.out k hlt wx
   have hup := fit_store k hlt (wr.alloc (.cells #[.int .i32 (brT.getD (2 * k) 0), .int .i32 (brT.getD (2 * k + 1) 0)] 303)) fb (heap_keep ((Below.refl _ _).alloc (Nat.le_refl _) _) hm)
   have HB : Hid (Below w.heap.size w (ChangeMaps.setBlock (wr.alloc (.cells #[.int .i32 (brT.getD (2 * k) 0), .int .i32 (brT.getD (2 * k + 1) 0)] 303)) fb (.map (fitE (k + 1)).toArray (k + 1)))) := below_setBlock (hb.alloc hbz _) HF.out.1 _
   have HM2 : Hid ((ChangeMaps.setBlock (wr.alloc (.cells #[.int .i32 (brT.getD (2 * k) 0), .int .i32 (brT.getD (2 * k + 1) 0)] 303)) fb (.map (fitE (k + 1)).toArray (k + 1))).heap[fb]? = some (.map (fitE (k + 1)).toArray (k + 1))) := setBlock_same (heap_keep ((Below.refl _ _).alloc (Nat.le_refl _) _) hm)
   clear hm hb
   generalize brT.getD (2 * k + 1) 0 = b1 at *
   generalize brT.getD (2 * k) 0 = b0 at *
   generalize ChangeMaps.setBlock (wr.alloc (.cells #[.int .i32 b0, .int .i32 b1] 303)) fb (.map (fitE (k + 1)).toArray (k + 1)) = W2 at *
   go_wp2
   go_roundg (4 - (k + 1))
   case measure => omega
   case rel => exact ⟨k + 1, by omega, rfl, by go_num, HB.out, HM2.out⟩
  ·have hlt' : ¬ (k : Int) < 4 := by omega
   obtain rfl : k = 4 := by omega
   have HB : Hid (Below w.heap.size w wr) := hb
   have HM2 : Hid (FitAt wr fb) := hm
   clear hm hb
   go_wp2
   go_ret
   exact ⟨by rw [HF.out.2]; rfl, by rw [← HF.out.2]; exact HM2.out, HB.out⟩
end Go.Proofs.YtkbinfhclaafhaaGreatDoor
namespace Go.Proofs.YtkbinfhclaafhaaGreatDoor
open Go.RowKit
theorem StkI.below {w w' : World} {B s : Nat} {v : Value} {l : List Nat} (h : StkI w B s v l) (hb : Below w.heap.size w w') : StkI w' B s v l := ⟨heap_keep hb h.cell, own_below h.row hb, h.low⟩
theorem FrS.after {w W w' : World} {s : Nat} {v v' : Value} (hb : Below w.heap.size w W) (h : FrS W w' s v v') : FrS w w' s v v' :=
 ⟨h.os.trans hb.os, h.tape.trans hb.tape, h.output.trans hb.output, Nat.le_trans hb.size h.size, fun k hk h1 h2 => (h.block k (Nat.lt_of_lt_of_le hk hb.size) h1 h2).trans (hb.block k hk), by
  rcases h.own with h1 | h1
  ·exact .inl h1
  ·exact .inr fun k hk => Nat.le_trans hb.size (h1 k hk)⟩
theorem FitAt.below {w w' : World} {fb : Nat} (h : FitAt w fb) (hb : Below w.heap.size w w') : FitAt w' fb := heap_keep hb h
def Ru32 (w : World) (gr n : Nat) (rs : List Int) : Prop := ∀ k, k < n → w.cell? ⟨gr, k, none⟩ = some (.int .i32 (rs.getD k 0))
theorem Ru32.below {w w' : World} {gr n : Nat} {rs : List Int} (h : Ru32 w gr n rs) (hb : Below w.heap.size w w') : Ru32 w' gr n rs := fun k hk => by
 rw [hb.cell (p := ⟨gr, k, none⟩) (World.block_lt_of_cell? w _ (h k hk))]; exact h k hk
set_option maxRecDepth 100000 in
set_option maxHeartbeats 8000000 in
theorem closed_row (w : World) (B sb gc n cc gr cr B' s fb : Nat) (v pv bv : Value) (lev sos eos : Int) (t rs : List Int) (st : List Nat) (r : Int) (h : SqC w B sb gc n cc pv (.slice (some ⟨gr, 0, none⟩) n cr) bv lev sos eos t) (hr : Ru32 w gr n rs) (hS : StkI w B' s v st) (hF : FitAt w fb) (hst : ∀ a ∈ st, a < n) (hO : StO rs st) (hc : (brk r).1 = 2) (hl : st.length ≤ 1000) :
  Calls Tryz.prog 246 #[.pointer (some ⟨sb, 0, none⟩), .pointer (some ⟨s, 0, none⟩), .map (some fb), .int .i32 r] w fun e w' =>
   (∃ m v', shutM rs (brk r).2 st st.length = some m ∧ e = .returned (.tuple #[.int .i64 (st.getD m 0 : Nat), .bool true]) ∧ StkI w' B' s v' (st.take m) ∧ FrS w w' s v v') ∨
   (shutM rs (brk r).2 st st.length = none ∧ e = .returned (.tuple #[.int .i64 0, .bool false]) ∧ Below w.heap.size w w') := by
 have HL : Hid (Calls Tryz.prog 244 #[.pointer (some ⟨s, 0, none⟩)] w fun e w' => e = .returned (.int .i64 st.length) ∧ w' = w) := lenI_any w B' s v st hS
 have HC : Hid (∀ (x : Int) (W : World), Calls Tryz.prog 266 #[.int .i32 x] W fun e w' => e = .returned (.int .i32 (cntR x)) ∧ w' = W) := fun x W => counted_any x W
 have H1 : Hid (SqC w B sb gc n cc pv (.slice (some ⟨gr, 0, none⟩) n cr) bv lev sos eos t) := h
 have H2 : Hid (Ru32 w gr n rs) := hr
 have H3 : Hid (StkI w B' s v st) := hS
 have H4 : Hid (FitAt w fb) := hF
 have H5 : Hid (∀ a ∈ st, a < n) := hst
 have H6 : Hid (StO rs st) := hO
 have H7 : Hid ((brk r).1 = 2) := hc
 clear h hr hS hF hst hO hc
 obtain ⟨R, hR⟩ : ∃ R, R = (brk r).2 := ⟨_, rfl⟩
 rw [← hR]
 have HRR : Hid (R = (brk r).2) := hR
 clear hR
 go_enter Tryz.func246, Tryz.ntmps246
 go_wp2_with fail
 refine HL.out.mono ?_
 rintro ev wx ⟨rfl, hx⟩
 have hx' := hx.symm
 subst hx'
 clear HL
 have hlz : (0 : Int) ≤ (st.length : Int) := Int.natCast_nonneg _
 have hl' : (st.length : Int) ≤ 1000 := by omega
 go_wp2
 go_loopg [10] st.length (fun gk iv W => ∃ (m : Nat) (i : Int), m ≤ st.length ∧ gk = m ∧ iv = .int .i64 i ∧ i = (m : Int) - 1 ∧ Below w.heap.size w W ∧ shutM rs R st m = shutM rs R st st.length)
 case atStart => exact ⟨st.length, _, Nat.le_refl _, rfl, rfl, by go_num, Below.refl _ _, rfl⟩
 case round =>
  clear hlz hl'
  obtain ⟨m, i, hm, hgk, rfl, hi, hb, hsh⟩ := hrel
  have HB : Hid (Below w.heap.size w wr) := hb
  cases m with
  | zero =>
   have HN : Hid (shutM rs R st st.length = none) := hsh.symm
   obtain rfl : i = -1 := by simpa using hi
   clear hsh hb hi
   go_wp2
   go_ret2
   exact .inr ⟨HN.out, rfl, HB.out⟩
  | succ m =>
   obtain rfl : i = (m : Int) := by omega
   clear hi
   have hmS : m < st.length := by omega
   have hp : st.getD m 0 < n := H5.out _ (getD_mem hmS)
   have hbr : (brk (rs.getD (st.getD m 0) 0)).1 = 1 := H6.out _ (getD_mem hmS)
   have HA : Hid (Calls Tryz.prog 234 #[.pointer (some ⟨s, 0, none⟩), .int .i64 m] wr fun e w' => e = .returned (.tuple #[.int .i64 (st.getD m 0 : Nat), .bool true]) ∧ w' = wr) := atI_in wr B' s v st m (H3.out.below hb) hmS
   have hfit := fit_brk hbr H7.out
   rw [← HRR.out] at hfit
   have c1 : wr.cell? ⟨sb, 1, none⟩ = some (.slice (some ⟨gr, 0, none⟩) n cr) := heap_cell (H1.out.below hb).cell 1
   have cr' := (H2.out.below hb) _ hp
   have hlk := fit_look (cntR (rs.getD (st.getD m 0) 0)) (cntR r) wr fb (H4.out.below hb)
   rw [cntR_canon, cntR_canon, hfit] at hlk
   rw [shutM] at hsh
   have hp' : ((st.getD m 0 : Nat) : Int) < (n : Int) := by omega
   have hp0 : (0 : Int) ≤ ((st.getD m 0 : Nat) : Int) := Int.natCast_nonneg _
   have hm0 : (0 : Int) ≤ (m : Int) := Int.natCast_nonneg _
   have hm1 : (m : Int) ≤ 1000 := by omega
   have HC1 : Hid (Calls Tryz.prog 266 #[.int .i32 (rs.getD (st.getD m 0) 0)] wr fun e w' => e = .returned (.int .i32 (canon (rs.getD (st.getD m 0) 0))) ∧ w' = wr) := by rw [← cntR_canon]; exact HC.out _ wr
   have HC2 : Hid (Calls Tryz.prog 266 #[.int .i32 r] wr fun e w' => e = .returned (.int .i32 (canon r)) ∧ w' = wr) := by rw [← cntR_canon]; exact HC.out _ wr
   have HB2 : Hid (Below w.heap.size w (wr.alloc (.cells #[] 305))) := hb.alloc hb.size _
   clear hb hbr hfit
   generalize hP : st.getD m 0 = p at *
   generalize rs.getD p 0 = x at *
   by_cases hq : (brk x).2 = R
   ·rw [if_pos hq] at hsh
    rw [decide_eq_true hq] at hlk
    have HN : Hid (shutM rs R st st.length = some m) := hsh.symm
    have HCut : Hid (Calls Tryz.prog 235 #[.pointer (some ⟨s, 0, none⟩), .int .i64 m] (wr.alloc (.cells #[] 305)) fun e w' => e = .returned (.tuple #[]) ∧ ∃ v', StkI w' B' s v' (st.take m) ∧ FrS (wr.alloc (.cells #[] 305)) w' s v v') := cutI_in _ B' s v st m (H3.out.below HB2.out) hmS (by omega)
    have HPp : Hid (st.getD m 0 = p) := hP
    clear hsh hq hP
    go_wp2_with fail
    refine HA.out.mono ?_
    rintro ev wx ⟨rfl, hx⟩
    have hx' := hx.symm
    subst hx'
    clear HA
    go_wp2_with fail
    refine HC1.out.mono ?_
    rintro ev wx ⟨rfl, hx⟩
    have hx' := hx.symm
    subst hx'
    clear HC1
    go_wp2_with fail
    refine HC2.out.mono ?_
    rintro ev wx ⟨rfl, hx⟩
    have hx' := hx.symm
    subst hx'
    clear HC2
    go_wp2_with fail
    refine HCut.out.mono ?_
    rintro ev wy ⟨rfl, v', hs', hf'⟩
    have HS' : Hid (StkI wy B' s v' (st.take m)) := hs'
    have HF' : Hid (FrS w wy s v v') := hf'.after HB2.out
    clear hs' hf' HCut
    go_wp2
    go_ret2
    exact .inl ⟨m, v', HN.out, by rw [HPp.out]; rfl, HS'.out, HF'.out⟩
   ·rw [if_neg hq] at hsh
    rw [decide_eq_false hq] at hlk
    have HN : Hid (shutM rs R st m = shutM rs R st st.length) := hsh
    clear hsh hq hP
    go_wp2_with fail
    refine HA.out.mono ?_
    rintro ev wx ⟨rfl, hx⟩
    have hx' := hx.symm
    subst hx'
    clear HA
    go_wp2_with fail
    refine HC1.out.mono ?_
    rintro ev wx ⟨rfl, hx⟩
    have hx' := hx.symm
    subst hx'
    clear HC1
    go_wp2_with fail
    refine HC2.out.mono ?_
    rintro ev wx ⟨rfl, hx⟩
    have hx' := hx.symm
    subst hx'
    clear HC2
    go_wp2
    go_roundg m
    case measure => omega
    case rel => exact ⟨m, _, by omega, rfl, rfl, by go_num, HB2.out, HN.out⟩
end Go.Proofs.YtkbinfhclaafhaaGreatDoor
namespace Go.Proofs.YtkbinfhclaafhaaGreatDoor
open Go.RowKit Go.Shelf Go.Lib Go.Sort
def encP (x : Nat × Nat) : List Value := [.int .i64 (x.1 : Nat), .int .i64 (x.2 : Nat)]
def cfP (x y : Nat × Nat) : Int := Lib.compareInt (x.1 : Nat) (y.1 : Nat)
set_option maxRecDepth 100000 in
set_option maxHeartbeats 2000000 in
theorem cmpP (x y : Nat × Nat) (W : World) : Calls Tryz.prog 248 #[.agg #[.int .i64 (x.1 : Nat), .int .i64 (x.2 : Nat)], .agg #[.int .i64 (y.1 : Nat), .int .i64 (y.2 : Nat)]] W fun e w' => e = .returned (.int .i64 (cfP x y)) ∧ ∃ q os', w' = grow (W.drewN q) os' := by
 have hcon := fun W' => AnyG.cmp_Compare_int Tryz.laysCmp (x.1 : Nat) (y.1 : Nat) W'
 change ∀ W', Calls Tryz.prog 249 _ _ _ at hcon
 unfold cfP
 generalize Lib.compareInt (x.1 : Nat) (y.1 : Nat) = r at hcon ⊢
 go_enter Tryz.func248, Tryz.ntmps248
 go_wp2_with (go_at_call 249; refine (hcon _).mono ?_; rintro e w' ⟨rfl, rfl⟩)
 go_ret
 exact ⟨rfl, 0, _, by rw [alloc_eq_grow, alloc_eq_grow, grow_grow]; rfl⟩
theorem ltP (x y : Nat × Nat) : ltOf cfP x y = decide (x.1 < y.1) := by
 unfold ltOf cfP Lib.compareInt
 by_cases h1 : x.1 < y.1
 ·have : (x.1 : Int) < (y.1 : Int) := by omega
  simp [h1, this]
 ·have : ¬ (x.1 : Int) < (y.1 : Int) := by omega
  by_cases h2 : (y.1 : Int) < (x.1 : Int) <;> simp [h1, h2, this]
theorem swoP : SWO (ltOf cfP) where
 irrefl x := by rw [ltP]; simp
 trans x y z h1 h2 := by rw [ltP] at *; simp at *; omega
 ntrans x y z h1 h2 := by rw [ltP] at *; simp at *; omega
theorem cmpLaysP (blk off size : Nat) (w : World) : CmpLays Tryz.prog 248 #[] encP 2 cfP blk off size w := fun _ _ _ _ x y => cmpP x y _
theorem pairsV_get (l : List (Nat × Nat)) : ∀ (j c : Nat), j < l.length → c < 2 → (pairsV l)[j * 2 + c]? = some ((encP (l.getD j (0, 0)))[c]!) := by
 induction l with
 | nil => intro j c h; simp at h
 | cons a r ih =>
  intro j c hj hc
  cases j with
  | zero =>
   match c, hc with
   | 0, _ => rfl
   | 1, _ => rfl
  | succ j =>
   have := ih j c (by simpa using hj) hc
   rw [show (j + 1) * 2 + c = (j * 2 + c) + 2 by omega]
   simpa [pairsV] using this
def PsAt (w : World) (g : Nat) (ps : List (Nat × Nat)) : Prop := ∀ j, j < ps.length → w.cell? ⟨g, j * 2, none⟩ = some (.int .i64 ((ps.getD j (0, 0)).1 : Nat)) ∧ w.cell? ⟨g, j * 2 + 1, none⟩ = some (.int .i64 ((ps.getD j (0, 0)).2 : Nat))
theorem holds_pairs {w : World} {B g cap : Nat} {e : TypeId} {out : List (Nat × Nat)} (h : w.ownsRow B e 2 (.slice (some ⟨g, 0, none⟩) out.length cap) out.length (pairsV out)) : HoldsK encP 2 w g 0 out.toArray := by
 intro j hj
 rw [size_flatK] at hj
 have hj' : j < out.length * 2 := by simpa using hj
 refine ⟨?_, by rw [Nat.zero_add]; exact World.ownsRow.frozenAt h j⟩
 rw [Nat.zero_add, World.ownsRow.cellAt h j hj', get_flatK _ _ _ _ hj]
 have hd : j / 2 < out.length := by omega
 have := pairsV_get out (j / 2) (j % 2) hd (Nat.mod_lt _ (by decide))
 rw [show j / 2 * 2 + j % 2 = j by omega] at this
 rw [this]
 congr 2
 simp [List.getD_eq_getElem?_getD, getElem!_def, List.getElem?_eq_getElem hd]
theorem psAt_holds {w : World} {g : Nat} {d : Array (Nat × Nat)} (h : HoldsK encP 2 w g 0 d) : PsAt w g d.toList := by
 intro j hj
 have hj' : j < d.size := by simpa using hj
 have h0 := (h.cell hj' (show 0 < 2 by decide)).1
 have h1 := (h.cell hj' (show 1 < 2 by decide)).1
 have e : d[j]! = d.toList.getD j (0, 0) := by
  rw [getElem!_pos d j hj', List.getD_eq_getElem?_getD, List.getElem?_eq_getElem (by simpa using hj')]; simp
 rw [e] at h0 h1
 simp only [Nat.zero_add, Nat.add_zero] at h0 h1
 exact ⟨h0, h1⟩
theorem below_sort {w : World} {B g n : Nat} {d : Array (Nat × Nat)} {os : Array Obj} (hB : B ≤ g) (hg : g < w.heap.size) : Below B w (sortWorldK encP 2 w g 0 n d os) := by
 refine ⟨rfl, rfl, rfl, ?_, fun k hk => ?_⟩
 ·unfold sortWorldK
  rw [size_grow, size_putRowK]
  show w.heap.size ≤ w.heap.size + _
  omega
 ·show ((w.heap.modify g _) ++ os)[k]? = w.heap[k]?
  rw [Array.getElem?_append_left (by simp; omega), Array.getElem?_modify, if_neg (by omega)]
theorem sortP_row (w : World) (B g cap : Nat) (out : List (Nat × Nat)) (h : w.ownsRow B 268 2 (.slice (some ⟨g, 0, none⟩) out.length cap) out.length (pairsV out)) (hl : out.length ≤ 1000) :
  Calls Tryz.prog 247 #[.slice (some ⟨g, 0, none⟩) out.length cap, .func (.func 248) #[] #[]] w fun e w' => e = .returned (.tuple #[]) ∧ ∃ ps : List (Nat × Nat), ps.Perm out ∧ ps.Pairwise (fun a b => a.1 ≤ b.1) ∧ PsAt w' g ps ∧ Below B w w' ∧ g < w'.heap.size := by
 have eg : ∀ args w, (callFunc 248 args).run Tryz.prog w = .ok (.enter 248 args) w := enters_of Tryz.func248 (by kernel_rfl) rfl
 obtain ⟨hB, hg⟩ := h.lt g rfl
 have hH := holds_pairs h
 have hcon := AnyQ.slices_SortFunc Tryz.laysSort 2 Tryz.isAgg268 Tryz.sizeOf268 encP (fun _ => rfl) (fun x v hv => by simp [encP] at hv; rcases hv with rfl | rfl <;> rfl) cfP swoP 248 #[] g 0 cap out.toArray w eg (cmpLaysP g 0 _ w) hH hg (by simp; omega)
 change Calls Tryz.prog 247 _ _ _ at hcon
 have e1 : out.toArray.size = out.length := by simp
 rw [e1] at hcon
 refine hcon.mono ?_
 rintro e w' ⟨rfl, d', n, os, hp, hs, rfl⟩
 have hsz : d'.size = out.length := by rw [hp.1]; simp
 refine ⟨rfl, d'.toList, ?_, ?_, psAt_holds (holdsK_sortWorldK encP 2 w g 0 n out.toArray d' os hg hH (by rw [hsz, e1])), below_sort hB hg, lt_sortWorldK encP 2 w g 0 n d' os hg⟩
 ·have := hp.2.2
  rw [show d'.extract 0 out.length = d' by rw [← hsz]; simp, show out.toArray.extract 0 out.length = out.toArray by simp] at this
  simpa using this
 ·rw [List.pairwise_iff_getElem]
  intro i j hi hj hij
  have hi' : i < d'.size := by simpa using hi
  have hj' : j < d'.size := by simpa using hj
  have := hs i j (Nat.zero_le _) hij (by omega)
  rw [ltP, getElem!_pos d' i hi', getElem!_pos d' j hj'] at this
  simp at this
  simpa using this
end Go.Proofs.YtkbinfhclaafhaaGreatDoor
namespace Go.Proofs.YtkbinfhclaafhaaGreatDoor
open Go.RowKit
theorem step_call1 {P : Program} {ops : Array Oper} {o : Oper} {a : Act} {w : World} {K : Act → World → Prop} {Q : Exit → Act → World → Prop} {E : Prop} (hgd : o.guard = none) (f : FuncId) (x : Operand) (ty : TypeId)
  (ho : o.op = .call { callee := .value (.func f), args := #[x], argTypes := #[ty] }) (hin : ∀ args w, (callFunc f args).run P w = .ok (.enter f args) w) (v : Value) (hv : a.eval x = v) (R : Value → World → Prop)
  (hc : Calls P f #[v] w fun e w' => ∃ u, e = .returned u ∧ R u w') (h : ∀ u w', R u w' → K (a.put o.dst u) w') : if Region.wanted o (yielded ops a.tmps) = true then Oper.wp P o a w K Q else E := by
 have hw : Region.wanted o (yielded ops a.tmps) = true := by simp [Region.wanted, hgd]
 rw [if_pos hw]
 have hr : (execOp a.eval o).run P w = .ok (.enter f #[v]) w := by
  simp [execOp, ho, resolve, invoke, hin, Act.eval, go_sem]
  rw [← hv]
  cases x <;> simp [Act.eval]
 unfold Oper.wp
 rw [hr, Oper.upon_enter]
 refine hc.mono ?_
 rintro e w' ⟨u, rfl, hR⟩
 exact h u w' hR
end Go.Proofs.YtkbinfhclaafhaaGreatDoor
namespace Go.Proofs.YtkbinfhclaafhaaGreatDoor
open Go.RowKit
theorem callFunc_enter {P : Program} {f : FuncId} {fn : Func} (hf : P.funcs[f]? = some fn) (h1 : (fn.name == "runtime.NumGoroutine") = false) (h2 : fn.body.isNone = false) : ∀ args w, (callFunc f args).run P w = .ok (.enter f args) w := fun args w => by
 simp only [callFunc, Sem.run_bind, run_program, Result.andThen_ok, hf, h1, h2]
 rfl
theorem app1 (a b : Value) : (#[a] ++ #[b] : Array Value) = #[a, b] := rfl
theorem app2 (a b c : Value) : (#[a, b] ++ #[c] : Array Value) = #[a, b, c] := rfl
section
variable (w : World) (B sb gc n cc bx : Nat) (pv rv bv : Value) (lev sos eos : Int) (t : List Int)
def J5 (a : Nat) (t' : List Int) (W : World) : Prop := ∃ s, SqC W B sb gc n cc pv rv bv lev sos eos t' ∧ W.heap[bx]? = some (.cells #[.pointer (some ⟨sb, 0, none⟩)] 146 (0, 0)) ∧ w.grownBy W (some gc) ∧ PassTo f5 g5 none t (min a n) s t' ∧ Ahead t' (min a n) s
theorem w5_law (hn : n ≤ 1000) (hl : t.length = n) (hso : sos = 0 ∨ sos = 1) (heo : eos = 0 ∨ eos = 1) (hbz : bx < w.heap.size) : RowLaw n 208 209 #[.pointer (some ⟨bx, 0, none⟩)] #[.pointer (some ⟨bx, 0, none⟩)] (J5 w B sb gc n cc bx pv rv bv lev sos eos t) (fun t' i => t'.getD i 0 == 5) := by
 refine ⟨?_, ?_, ?_⟩
 ·rintro t' a W i ⟨s, hS, hB, hG, hN, hA⟩ _ hi
  rw [app1]
  refine (isTerm_any W B sb gc n cc bx pv rv bv lev sos eos t' hS hB i hi).mono ?_
  rintro e W' ⟨rfl, rfl⟩
  exact ⟨rfl, s, hS, hB, hG, hN, hA⟩
 ·rintro t' a W ⟨s, hS, hB, hG, hN, hA⟩ ha hq
  rw [Nat.min_eq_left (by omega)] at hN hA
  have h5 : ¬ t.getD a 0 = 5 := by
   rw [← hN.at a (Nat.le_refl _)]
   simpa using hq
  obtain ⟨h1, h2⟩ := run5_one hN (by omega) h5
  exact ⟨t', some (t.getD a 0), hS, hB, hG, by rw [Nat.min_eq_left (by omega)]; exact h1, by rw [Nat.min_eq_left (by omega)]; exact h2⟩
 ·rintro t' a b W ⟨s, hS, hB, hG, hN, hA⟩ hab hbn hall hend
  rw [Nat.min_eq_left (by omega)] at hN hA
  have hrun : ∀ q, a ≤ q → q < b → t.getD q 0 = 5 := fun q h1 h2 => by
   rw [← hN.at q h1]
   simpa using hall q h1 h2
  have hb5 : b < n → ¬ t.getD b 0 = 5 := fun h => by
   rw [← hN.at b (by omega)]
   simpa using hend h
  have hx : (atP sos eos t' ((a : Int) - 1) = 3 ↔ s = some 3) := by
   rcases hA with ⟨rfl, rfl⟩ | ⟨h0, rfl⟩
   ·rw [show ((0 : Nat) : Int) - 1 = -1 from rfl, atP, if_pos (by decide)]
    simp
    omega
   ·rw [atP, if_neg (by omega), if_neg (by rw [hS.len]; omega), show ((a : Int) - 1).toNat = a - 1 by omega]
    simp
  have hy : (atP sos eos t' (b : Int) = 3 ↔ etNext (t.drop b) = true) := by
   by_cases hb : b < n
   ·rw [atP, if_neg (by omega), if_neg (by rw [hS.len]; omega), Int.toNat_natCast, hN.at b (by omega), etNext_at (by omega) (hb5 hb)]
    simp
   ·rw [atP, if_neg (by omega), if_pos (by rw [hS.len]; omega), etNext_end (by omega)]
    simp
    omega
  rw [app2]
  refine (tellTerm_any W B sb gc n cc bx pv rv bv lev sos eos t' hS hn hB a b (by omega) hbn).mono ?_
  rintro e W' ⟨rfl, hS', hG'⟩
  have hB' : W'.heap[bx]? = some (.cells #[.pointer (some ⟨sb, 0, none⟩)] 146 (0, 0)) := by
   rw [hG'.block bx (Nat.lt_of_lt_of_le hbz hG.size) (fun e => (hS.boxed hB) (Option.some.inj e).symm)]
   exact hB
  have key : ∀ t2 s2, t2 = (if atP sos eos t' ((a : Int) - 1) = 3 ∨ atP sos eos t' (b : Int) = 3 then fillV t' a 3 (b - a) else t') → PassTo f5 g5 none t b (some s2) t2 ∧ Ahead t2 b (some s2) → ∃ x', J5 w B sb gc n cc bx pv rv bv lev sos eos t (b + 1) x' W' := by
   rintro t2 s2 rfl ⟨h1, h2⟩
   by_cases hb : b < n
   ·obtain ⟨h3, h4⟩ := run5_one h1 (by omega) (hb5 hb)
    exact ⟨_, some (t.getD b 0), hS', hB', hG.trans hG', by rw [Nat.min_eq_left (by omega)]; exact h3, by rw [Nat.min_eq_left (by omega)]; exact h4⟩
   ·have e : min (b + 1) n = b := by omega
    exact ⟨_, some s2, hS', hB', hG.trans hG', by rw [e]; exact h1, by rw [e]; exact h2⟩
  refine ⟨rfl, ?_⟩
  by_cases hc : s = some 3 ∨ etNext (t.drop b) = true
  ·have := run5_filled hN hrun (by omega) hab hc
   rw [fill3_V] at this
   exact key _ 3 (by rw [if_pos (by rw [hx, hy]; exact hc)]) this
  ·have h1 : ¬ s = some 3 := fun h => hc (.inl h)
   have h2 : etNext (t.drop b) = false := by simpa using fun h => hc (.inr h)
   exact key _ 5 (by rw [if_neg (by rw [hx, hy]; exact hc)]) (run5_keptA hN hrun (by omega) hab h1 h2)
end
set_option maxRecDepth 100000 in
set_option maxHeartbeats 4000000 in
theorem w5_row (w : World) (B sb gc n cc : Nat) (pv rv bv : Value) (lev sos eos : Int) (t : List Int) (h : SqC w B sb gc n cc pv rv bv lev sos eos t) (hn : n ≤ 1000) (hso : sos = 0 ∨ sos = 1) (heo : eos = 0 ∨ eos = 1) :
  Calls Tryz.prog 148 #[.pointer (some ⟨sb, 0, none⟩)] w fun e w' => e = .returned (.tuple #[]) ∧ SqC w' B sb gc n cc pv rv bv lev sos eos (pass f5 g5 none t) ∧ w.grownBy w' (some gc) := by
 have hmf : ∀ (fn : Fn) (first cap : Array Value) (w : World), (Instr.makeFunc fn first cap).run Tryz.prog w = .ok (.func fn first cap) w := fun _ _ _ _ => rfl
 have hb1 : Below w.heap.size w (w.alloc (.cells #[.pointer (some ⟨sb, 0, none⟩)] 146)) := (Below.refl _ _).alloc (Nat.le_refl _) _
 have hS1 := h.below hb1
 have c2 := hS1.f2
 have hl := h.len
 have HC : Hid (Calls Tryz.prog 97 #[.int .i64 n, .func (.func 208) #[] #[.pointer (some ⟨w.heap.size, 0, none⟩)], .func (.func 209) #[] #[.pointer (some ⟨w.heap.size, 0, none⟩)]] (w.alloc (.cells #[.pointer (some ⟨sb, 0, none⟩)] 146)) fun e w' => e = .returned (.tuple #[]) ∧ ∃ k x, n ≤ k ∧ J5 (w.alloc (.cells #[.pointer (some ⟨sb, 0, none⟩)] 146)) B sb gc n cc w.heap.size pv rv bv lev sos eos t k x w') :=
  eachRow_any n _ _ _ _ _ _ hn (w5_law _ B sb gc n cc w.heap.size pv rv bv lev sos eos t hn hl hso heo (by simp)) (callFunc_enter Tryz.func208 (by kernel_rfl) (by kernel_rfl)) (callFunc_enter Tryz.func209 (by kernel_rfl) (by kernel_rfl)) t _
   ⟨none, hS1, Array.getElem?_push_size, World.grownBy.refl _ _, by rw [Nat.zero_min]; exact PassTo.start _ _ _ _, by rw [Nat.zero_min]; exact Ahead.start _⟩
 have HG0 : Hid (w.grownBy (w.alloc (.cells #[.pointer (some ⟨sb, 0, none⟩)] 146)) (some gc)) := ⟨rfl, rfl, rfl, by simp, fun k hk _ => Below.heap_alloc w _ k hk⟩
 have HL : Hid (t.length = n) := hl
 clear h hb1 hS1 hl
 go_enter Tryz.func148, Tryz.ntmps148
 go_wp2_with fail
 refine HC.out.mono ?_
 rintro ev w2 ⟨rfl, k, t', hk, s, hS, _, hG, hN, _⟩
 rw [Nat.min_eq_right hk] at hN
 have e := hN.stop (by rw [HL.out]; omega)
 have HS : Hid (SqC w2 B sb gc n cc pv rv bv lev sos eos (pass f5 g5 none t)) := by rw [← e]; exact hS
 have HG : Hid (w.grownBy w2 (some gc)) := HG0.out.trans hG
 clear hS hG hN e HC c2
 go_wp2
 go_end0
 exact ⟨rfl, HS.out, HG.out⟩
end Go.Proofs.YtkbinfhclaafhaaGreatDoor
