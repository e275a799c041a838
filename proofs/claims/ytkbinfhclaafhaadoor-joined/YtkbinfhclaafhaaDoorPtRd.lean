import Derived.Test.YtkbinfhclaafhaaDoorRefState
import Derived.Test.YtkbinfhclaafhaaDoorSize
import Derived.Lib.SmallJoins
import Derived.BigQuiet
import Derived.Deep.LoopGhost
import Derived.WalkSmall
namespace Go.Proofs.YtkbinfhclaafhaaDoor
open Go.RowKit

/-! parts.reader: its methods. -/
/-- Where a reader stands. -/
structure RP where
  line : Nat
  start : Nat
  from_ : Nat
  body : Nat
  at_ : Nat
/-- The byte at a place; behind the end a line feed. -/
def bt (s : ByteArray) (i : Nat) : Int := if i < s.size then ((s.get! i).toNat : Int) else 10
theorem bt_in {s : ByteArray} {i : Nat} (h : i < s.size) : bt s i = ((s[i]'h).toNat : Int) := by rw [bt, if_pos h, get_eq s i h]
theorem bt_out {s : ByteArray} {i : Nat} (h : ¬ i < s.size) : bt s i = 10 := by rw [bt, if_neg h]
theorem heapLt {w : World} {k : Nat} {o : Obj} (h : w.heap[k]? = some o) : k < w.heap.size := (Array.getElem?_eq_some_iff.1 h).1
theorem cellAl (w : World) (o : Obj) (a : Addr) (h : a.block < w.heap.size) : (w.alloc o).cell? a = w.cell? a := World.cell?_of_block (Below.heap_alloc w o _ h)
theorem grown_refl (w : World) (r : Option Nat) : w.grownBy w r := ⟨rfl, rfl, rfl, Nat.le_refl _, fun _ _ _ => rfl⟩
theorem grown_trans {a b c : World} {r : Option Nat} (h : a.grownBy b r) (k : b.grownBy c r) : a.grownBy c r :=
  ⟨k.os.trans h.os, k.tape.trans h.tape, k.output.trans h.output, Nat.le_trans h.size k.size, fun i hi hne => (k.block i (Nat.lt_of_lt_of_le hi h.size) hne).trans (h.block i hi hne)⟩
theorem setc_grown (W : World) (b i : Nat) (v : Value) : W.grownBy (W.setCell ⟨b, i, none⟩ v) (some b) := ⟨rfl, rfl, rfl, by simp, fun k _ hne => Below.heap_setCell _ _ _ _ (fun e => hne (by rw [e]))⟩
theorem grown_set {a b : World} {rb i : Nat} {v : Value} (h : a.grownBy b (some rb)) : a.grownBy (b.setCell ⟨rb, i, none⟩ v) (some rb) := grown_trans h (setc_grown _ _ _ _)
theorem grown_drewN {a b : World} {r : Option Nat} (h : a.grownBy b r) {m : Nat} : a.grownBy (b.drewN m) r := ⟨h.os, h.tape, h.output, h.size, h.block⟩
theorem grown_drew {a b : World} {r : Option Nat} (h : a.grownBy b r) : a.grownBy b.drew r := ⟨h.os, h.tape, h.output, h.size, h.block⟩
/-- A reader lies in block rb. -/
def Rd (w : World) (rb : Nat) (s : ByteArray) (tv : Value) (p : RP) (st : Bool) : Prop :=
  w.heap[rb]? = some (.cells #[.string s, tv, .int .i64 p.line, .int .i64 p.start, .int .i64 p.from_, .int .i64 p.body, .int .i64 p.at_, .bool st] 44 (0, 0))
section
variable {w w' : World} {rb : Nat} {s : ByteArray} {tv : Value} {p : RP} {st : Bool}
theorem Rd.c0 (h : Rd w rb s tv p st) : w.cell? ⟨rb, 0, none⟩ = some (.string s) := heap_cell h 0
theorem Rd.c1 (h : Rd w rb s tv p st) : w.cell? ⟨rb, 1, none⟩ = some tv := heap_cell h 1
theorem Rd.c2 (h : Rd w rb s tv p st) : w.cell? ⟨rb, 2, none⟩ = some (.int .i64 p.line) := heap_cell h 2
theorem Rd.c3 (h : Rd w rb s tv p st) : w.cell? ⟨rb, 3, none⟩ = some (.int .i64 p.start) := heap_cell h 3
theorem Rd.c4 (h : Rd w rb s tv p st) : w.cell? ⟨rb, 4, none⟩ = some (.int .i64 p.from_) := heap_cell h 4
theorem Rd.c5 (h : Rd w rb s tv p st) : w.cell? ⟨rb, 5, none⟩ = some (.int .i64 p.body) := heap_cell h 5
theorem Rd.c6 (h : Rd w rb s tv p st) : w.cell? ⟨rb, 6, none⟩ = some (.int .i64 p.at_) := heap_cell h 6
theorem Rd.c7 (h : Rd w rb s tv p st) : w.cell? ⟨rb, 7, none⟩ = some (.bool st) := heap_cell h 7
theorem Rd.fz (h : Rd w rb s tv p st) (j : Nat) : w.frozen? ⟨rb, j, none⟩ = false := heap_free h j
theorem Rd.lt (h : Rd w rb s tv p st) : rb < w.heap.size := heapLt h
theorem Rd.set (p' : RP) (st' : Bool) (hh : w'.heap[rb]? = some (.cells #[.string s, tv, .int .i64 p'.line, .int .i64 p'.start, .int .i64 p'.from_, .int .i64 p'.body, .int .i64 p'.at_, .bool st'] 44 (0, 0))) : Rd w' rb s tv p' st' := hh
theorem Rd.other (h : Rd w rb s tv p st) {r : Option Nat} (hg : w.grownBy w' r) (hne : some rb ≠ r) : Rd w' rb s tv p st := (hg.block rb h.lt hne).trans h
theorem Rd.s2 (h : Rd w rb s tv p st) (v : Nat) : Rd (w.setCell ⟨rb, 2, none⟩ (.int .i64 v)) rb s tv ⟨v, p.start, p.from_, p.body, p.at_⟩ st := by unfold Rd; rw [Joins.block_setCell h]; rfl
theorem Rd.s3 (h : Rd w rb s tv p st) (v : Nat) : Rd (w.setCell ⟨rb, 3, none⟩ (.int .i64 v)) rb s tv ⟨p.line, v, p.from_, p.body, p.at_⟩ st := by unfold Rd; rw [Joins.block_setCell h]; rfl
theorem Rd.s4 (h : Rd w rb s tv p st) (v : Nat) : Rd (w.setCell ⟨rb, 4, none⟩ (.int .i64 v)) rb s tv ⟨p.line, p.start, v, p.body, p.at_⟩ st := by unfold Rd; rw [Joins.block_setCell h]; rfl
theorem Rd.s5 (h : Rd w rb s tv p st) (v : Nat) : Rd (w.setCell ⟨rb, 5, none⟩ (.int .i64 v)) rb s tv ⟨p.line, p.start, p.from_, v, p.at_⟩ st := by unfold Rd; rw [Joins.block_setCell h]; rfl
theorem Rd.s6 (h : Rd w rb s tv p st) (v : Nat) : Rd (w.setCell ⟨rb, 6, none⟩ (.int .i64 v)) rb s tv ⟨p.line, p.start, p.from_, p.body, v⟩ st := by unfold Rd; rw [Joins.block_setCell h]; rfl
theorem Rd.s7 (h : Rd w rb s tv p st) (v : Bool) : Rd (w.setCell ⟨rb, 7, none⟩ (.bool v)) rb s tv p v := by unfold Rd; rw [Joins.block_setCell h]; rfl
theorem Rd.drewN (h : Rd w rb s tv p st) (m : Nat) : Rd (w.drewN m) rb s tv p st := h
end
theorem retB {a b : Bool} (h : a = b) : Ending.returned (.bool a) = .returned (.bool b) := by rw [h]
def overB (s : ByteArray) (p : RP) (st : Bool) : Bool := st || decide (p.at_ = s.size)
def lineB (s : ByteArray) (p : RP) (st : Bool) : Bool := overB s p st || decide (bt s p.at_ = 10)
set_option maxRecDepth 100000 in
set_option maxHeartbeats 4000000 in
theorem over_any (w : World) (rb : Nat) (s : ByteArray) (tv : Value) (p : RP) (st : Bool) (h : Rd w rb s tv p st) :
    Calls Tryd.prog 12 #[.pointer (some ⟨rb, 0, none⟩)] w fun e w' => e = .returned (.bool (overB s p st)) ∧ ∃ m, w' = w.drewN m := by
  have c0 := h.c0
  have c6 := h.c6
  have c7 := h.c7
  clear h
  obtain ⟨ln, sa, fr, bo, at'⟩ := p
  unfold overB
  simp only at c6 ⊢
  cases st with
  | true =>
    go_enter Tryd.func12, Tryd.ntmps12
    go_wp2_with fail
    go_quiet (fail)
    go_wp2
    go_ret
    exact ⟨rfl, _, rfl⟩
  | false =>
    go_enter Tryd.func12, Tryd.ntmps12
    go_wp2_with fail
    go_quiet (fail)
    go_wp2
    go_ret
    exact ⟨retB (by rw [Bool.false_or, Bool.eq_iff_iff]; simp; omega), _, rfl⟩
set_option maxRecDepth 100000 in
set_option maxHeartbeats 4000000 in
theorem lineOver_any (w : World) (rb : Nat) (s : ByteArray) (tv : Value) (p : RP) (st : Bool) (h : Rd w rb s tv p st) (hle : p.at_ ≤ s.size) :
    Calls Tryd.prog 17 #[.pointer (some ⟨rb, 0, none⟩)] w fun e w' => e = .returned (.bool (lineB s p st)) ∧ ∃ m, w' = w.drewN m := by
  have HO : Hid (∀ m, Calls Tryd.prog 12 #[.pointer (some ⟨rb, 0, none⟩)] (w.drewN m) fun e w' => e = .returned (.bool (overB s p st)) ∧ ∃ k, w' = (w.drewN m).drewN k) := fun m => over_any _ rb s tv p st (h.drewN m)
  have c0 := h.c0
  have c6 := h.c6
  clear h
  unfold lineB
  by_cases ho : overB s p st = true
  · rw [ho] at HO ⊢
    clear ho hle
    go_enter Tryd.func17, Tryd.ntmps17
    go_wp2_with fail
    go_quiet (first | (go_at_call 12; refine Calls.quiet_of (HO.out _)))
    go_wp2
    go_ret
    exact ⟨rfl, _, rfl⟩
  · have ho : overB s p st = false := by simpa using ho
    have hlt : p.at_ < s.size := by
      unfold overB at ho
      simp only [Bool.or_eq_false_iff, decide_eq_false_iff_not] at ho
      omega
    rw [ho] at HO ⊢
    rw [bt_in hlt]
    clear ho hle
    obtain ⟨ln, sa, fr, bo, at'⟩ := p
    simp only at hlt c6 ⊢
    have hl' : (at' : Int) < (s.size : Int) := by omega
    obtain ⟨c, hc⟩ : ∃ c, s[at']'hlt = c := ⟨_, rfl⟩
    rw [hc]
    go_enter Tryd.func17, Tryd.ntmps17
    go_wp2_with fail
    go_quiet (first | (go_at_call 12; refine Calls.quiet_of (HO.out _)))
    go_wp2
    go_ret
    exact ⟨retB (by rw [Bool.false_or, Bool.eq_iff_iff]; simp), _, rfl⟩
def feedP (p : RP) : RP := ⟨p.line + 1, p.at_ + 1, p.at_ + 1, p.at_ + 1, p.at_ + 1⟩
set_option maxRecDepth 100000 in
set_option maxHeartbeats 4000000 in
theorem feed_any (w : World) (rb : Nat) (s : ByteArray) (tv : Value) (p : RP) (st : Bool) (h : Rd w rb s tv p st) (hle : p.at_ ≤ 100000) (hl : p.line ≤ 100000) :
    Calls Tryd.prog 15 #[.pointer (some ⟨rb, 0, none⟩)] w fun e w' => (∃ v, e = .returned v) ∧ Rd w' rb s tv (feedP p) st ∧ w.grownBy w' (some rb) := by
  obtain ⟨ln, sa, fr, bo, at'⟩ := p
  simp only at hle hl
  unfold feedP
  simp only
  obtain ⟨at1, ha1⟩ : ∃ at1, at' + 1 = at1 := ⟨_, rfl⟩
  rw [ha1]
  have HA : Hid (at' + 1 = at1) := ha1
  clear ha1
  have HH : Hid (Rd w rb s tv ⟨ln, sa, fr, bo, at'⟩ st) := h
  have c2 := h.c2
  have c6 := h.c6
  have f2 := h.fz 2
  have f3 := h.fz 3
  have f4 := h.fz 4
  have f5 := h.fz 5
  have f6 := h.fz 6
  have c3 := h.c3
  have c4 := h.c4
  have c5 := h.c5
  clear h
  simp only at c2 c3 c4 c5 c6
  go_enter Tryd.func15, Tryd.ntmps15
  go_wp2
  have e6 : ((at' : Int) + 1) = (at1 : Int) := by have := HA.out; omega
  have e2 : ((ln : Int) + 1) = ((ln + 1 : Nat) : Int) := by omega
  rw [e6, e2]
  clear e6 e2 c2 c3 c4 c5 c6 f2 f3 f4 f5 f6
  have h1 := (HH.out.s6 at1).s2 (ln + 1)
  have g1 : w.grownBy ((w.setCell ⟨rb, 6, none⟩ (.int .i64 (at1 : Int))).setCell ⟨rb, 2, none⟩ (.int .i64 ((ln + 1 : Nat) : Int))) (some rb) := grown_set (grown_set (grown_refl _ _))
  generalize (w.setCell ⟨rb, 6, none⟩ (.int .i64 (at1 : Int))).setCell ⟨rb, 2, none⟩ (.int .i64 ((ln + 1 : Nat) : Int)) = W at *
  have c6 := h1.c6
  have c3 := h1.c3
  have c4 := h1.c4
  have c5 := h1.c5
  have f3 := h1.fz 3
  have f4 := h1.fz 4
  have f5 := h1.fz 5
  simp only at c3 c4 c5 c6
  have H1 : Hid (Rd W rb s tv ⟨ln + 1, sa, fr, bo, at1⟩ st) := h1
  have G1 : Hid (w.grownBy W (some rb)) := g1
  clear h1 g1 HH
  go_region
  all_goals
    go_wp2
    go_end0
    refine ⟨⟨_, rfl⟩, ?_, ?_⟩
    · first
        | exact ((H1.out.s3 at1).s4 at1).s5 at1
        | exact ((H1.out.s3 at1).s5 at1).s4 at1
        | exact ((H1.out.s4 at1).s3 at1).s5 at1
        | exact ((H1.out.s4 at1).s5 at1).s3 at1
        | exact ((H1.out.s5 at1).s3 at1).s4 at1
        | exact ((H1.out.s5 at1).s4 at1).s3 at1
    · exact grown_drewN (grown_set (grown_set (grown_set G1.out)))
set_option maxRecDepth 100000 in
set_option maxHeartbeats 4000000 in
theorem sign_any (w : World) (rb : Nat) (s : ByteArray) (tv : Value) (p : RP) (st : Bool) (h : Rd w rb s tv p st) (hlt : p.at_ < s.size) (hz : s.size ≤ 100000) :
    Calls Tryd.prog 13 #[.pointer (some ⟨rb, 0, none⟩)] w fun e w' => e = .returned (.agg #[.int .u8 (bt s p.at_), .int .u8 (bt s (p.at_ + 1))]) ∧ Below w.heap.size w w' := by
  have c0 := h.c0
  have c6 := h.c6
  have HR : Hid (rb < w.heap.size) := h.lt
  clear h
  rw [bt_in hlt]
  obtain ⟨ln, sa, fr, bo, at'⟩ := p
  simp only at hlt c6 ⊢
  have hl' : (at' : Int) < (s.size : Int) := by omega
  obtain ⟨c, hc⟩ : ∃ c, s[at']'hlt = c := ⟨_, rfl⟩
  rw [hc]
  have x0 : (w.alloc (.cells #[.int .u8 0, .int .u8 0] 46)).cell? ⟨rb, 0, none⟩ = some (.string s) := (cellAl _ _ _ HR.out).trans c0
  have x6 : (w.alloc (.cells #[.int .u8 0, .int .u8 0] 46)).cell? ⟨rb, 6, none⟩ = some (.int .i64 at') := (cellAl _ _ _ HR.out).trans c6
  have y0 : ((w.alloc (.cells #[.int .u8 0, .int .u8 0] 46)).alloc (.cells #[.int .u8 0, .int .u8 0] 46)).cell? ⟨rb, 0, none⟩ = some (.string s) := (cellAl _ _ _ (by simp; have := HR.out; omega)).trans x0
  have y6 : ((w.alloc (.cells #[.int .u8 0, .int .u8 0] 46)).alloc (.cells #[.int .u8 0, .int .u8 0] 46)).cell? ⟨rb, 6, none⟩ = some (.int .i64 at') := (cellAl _ _ _ (by simp; have := HR.out; omega)).trans x6
  by_cases h2 : at' + 1 < s.size
  · rw [bt_in h2]
    obtain ⟨d, hd⟩ : ∃ d, s[at' + 1]'h2 = d := ⟨_, rfl⟩
    rw [hd]
    have h2' : (at' : Int) + 1 < (s.size : Int) := by omega
    go_enter Tryd.func13, Tryd.ntmps13
    go_wp2
    go_region
    all_goals
      have z0 : ((w.alloc (.cells #[.int .u8 0, .int .u8 0] 46)).alloc (.cells #[.int .u8 c.toNat, .int .u8 10] 46)).cell? ⟨rb, 0, none⟩ = some (.string s) := (cellAl _ _ _ (by simp; have := HR.out; omega)).trans x0
      have z6 : ((w.alloc (.cells #[.int .u8 0, .int .u8 0] 46)).alloc (.cells #[.int .u8 c.toNat, .int .u8 10] 46)).cell? ⟨rb, 6, none⟩ = some (.int .i64 at') := (cellAl _ _ _ (by simp; have := HR.out; omega)).trans x6
      go_wp2
      go_region
      go_wp2
      go_region
      all_goals
        go_wp2
        exact bodyPost_ret (v := .agg #[.int .u8 c.toNat, .int .u8 d.toNat]) (by simp [results, Tryd.results13, Tryd.isAgg46, Tryd.sizeOf46, go_sem]) rfl ⟨rfl, (((((Below.refl _ _).alloc (Nat.le_refl _) _).alloc (by simp) _).drew).drew).drew⟩
  · rw [bt_out h2]
    have h2' : ¬ (at' : Int) + 1 < (s.size : Int) := by omega
    go_enter Tryd.func13, Tryd.ntmps13
    go_wp2
    go_region
    all_goals
      have z0 : ((w.alloc (.cells #[.int .u8 0, .int .u8 0] 46)).alloc (.cells #[.int .u8 c.toNat, .int .u8 10] 46)).cell? ⟨rb, 0, none⟩ = some (.string s) := (cellAl _ _ _ (by simp; have := HR.out; omega)).trans x0
      have z6 : ((w.alloc (.cells #[.int .u8 0, .int .u8 0] 46)).alloc (.cells #[.int .u8 c.toNat, .int .u8 10] 46)).cell? ⟨rb, 6, none⟩ = some (.int .i64 at') := (cellAl _ _ _ (by simp; have := HR.out; omega)).trans x6
      go_wp2
      go_region
      go_wp2
      exact bodyPost_ret (v := .agg #[.int .u8 c.toNat, .int .u8 10]) (by simp [results, Tryd.results13, Tryd.isAgg46, Tryd.sizeOf46, go_sem]) rfl ⟨rfl, ((((Below.refl _ _).alloc (Nat.le_refl _) _).alloc (by simp) _).drew).drew⟩
/-- Where the line ends that i stands in. -/
def lineEnd (s : ByteArray) (i : Nat) : Nat := if i < s.size ∧ bt s i ≠ 10 then lineEnd s (i + 1) else i
termination_by s.size - i
theorem lineEnd_le {s : ByteArray} {i : Nat} (h : i ≤ s.size) : lineEnd s i ≤ s.size := by
  fun_induction lineEnd s i with
  | case1 i h1 ih => exact ih (by omega)
  | case2 i h1 => exact h
theorem le_lineEnd (s : ByteArray) (i : Nat) : i ≤ lineEnd s i := by
  fun_induction lineEnd s i with
  | case1 i h1 ih => omega
  | case2 i h1 => omega
set_option maxRecDepth 100000 in
set_option maxHeartbeats 4000000 in
theorem skipLine_any (w : World) (rb : Nat) (s : ByteArray) (tv : Value) (p : RP) (st : Bool) (h : Rd w rb s tv p st) (hle : p.at_ ≤ s.size) (hz : s.size ≤ 100000) :
    Calls Tryd.prog 18 #[.pointer (some ⟨rb, 0, none⟩)] w fun e w' => (∃ v, e = .returned v) ∧ Rd w' rb s tv { p with at_ := if st then p.at_ else lineEnd s p.at_ } st ∧ w.grownBy w' (some rb) := by
  obtain ⟨ln, sa, fr, bo, at0⟩ := p
  simp only at hle ⊢
  obtain ⟨E, hE⟩ : ∃ E, (if st then at0 else lineEnd s at0) = E := ⟨_, rfl⟩
  rw [hE]
  have HE : Hid ((if st then at0 else lineEnd s at0) = E) := hE
  clear hE
  go_enter Tryd.func18, Tryd.ntmps18
  go_wp2
  go_loopg [] (s.size - at0) (fun gh W => ∃ a, a ≤ s.size ∧ gh = s.size - a ∧ Rd W rb s tv ⟨ln, sa, fr, bo, a⟩ st ∧ w.grownBy W (some rb) ∧ (if st then a else lineEnd s a) = E)
  case atStart => exact ⟨at0, hle, rfl, h, grown_refl _ _, HE.out⟩
  case round =>
    obtain ⟨a, ha, rfl, hR, hG, hEa⟩ := hrel
    have HR : Hid (Rd wr rb s tv ⟨ln, sa, fr, bo, a⟩ st) := hR
    have HG : Hid (w.grownBy wr (some rb)) := hG
    have HL : Hid (∀ _x : Nat, Calls Tryd.prog 17 #[.pointer (some ⟨rb, 0, none⟩)] wr fun e w' => e = .returned (.bool (lineB s ⟨ln, sa, fr, bo, a⟩ st)) ∧ ∃ m, w' = wr.drewN m) := fun _ => lineOver_any wr rb s tv ⟨ln, sa, fr, bo, a⟩ st hR ha
    have HEa : Hid ((if st then a else lineEnd s a) = E) := hEa
    by_cases hb : lineB s ⟨ln, sa, fr, bo, a⟩ st = true
    · rw [hb] at HL
      have HX : Hid (a = E) := by
        show _ = _
        unfold lineB overB at hb
        simp only [Bool.or_eq_true, decide_eq_true_eq] at hb
        cases st with
        | true => exact hEa
        | false =>
          rw [if_neg (by decide), lineEnd, if_neg] at hEa
          · exact hEa
          · rintro ⟨h1, h2⟩
            rcases hb with (h3 | h3) | h3
            · cases h3
            · omega
            · exact h2 h3
      clear hb hR hG hEa
      go_wp2_with (go_at_call 17; refine (HL.out 0).mono ?_; rintro ev wx ⟨rfl, m, rfl⟩)
      go_end0
      refine ⟨⟨_, rfl⟩, ?_, grown_drewN HG.out⟩
      rw [← HX.out]
      exact HR.out.drewN _
    · have hb : lineB s ⟨ln, sa, fr, bo, a⟩ st = false := by simpa using hb
      rw [hb] at HL
      unfold lineB overB at hb
      simp only [Bool.or_eq_false_iff, decide_eq_false_iff_not] at hb
      obtain ⟨⟨rfl, h2⟩, h3⟩ := hb
      have HX : Hid ((if false then a + 1 else lineEnd s (a + 1)) = E) := by
        show (if false = true then _ else _) = _
        rw [if_neg (by decide)] at hEa ⊢
        rw [lineEnd, if_pos ⟨by omega, h3⟩] at hEa
        exact hEa
      have c6 := hR.c6
      have f6 := hR.fz 6
      simp only at c6
      have ha1 : a < s.size := by omega
      clear hR hG hEa h2 h3
      go_wp2_with (go_at_call 17; refine (HL.out 0).mono ?_; rintro ev wx ⟨rfl, m, rfl⟩)
      go_roundg (s.size - (a + 1))
      case measure => omega
      case rel => exact ⟨a + 1, by omega, rfl, (HR.out.drewN _).s6 (a + 1), grown_set (grown_drewN HG.out), HX.out⟩
end Go.Proofs.YtkbinfhclaafhaaDoor
