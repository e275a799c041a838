import Derived.Test.YtkbinfhclaafhaaDoorPtCut
namespace Go.Proofs.YtkbinfhclaafhaaDoor
open Go.RowKit

/-! (*parts.reader).open; the machine that the reader is. -/
def openS (hd : Nat) (p : RP) (st : Bool) : RP := ⟨(cutS 0 p st).line, (cutS 0 p st).start, (cutS 0 p st).from_, (cutS 0 p st).at_ + hd, (cutS 0 p st).at_ + hd⟩
structure OkP (s : ByteArray) (p : RP) : Prop where
  a : p.start ≤ p.from_
  b : p.from_ ≤ p.at_
  c : p.start ≤ p.body
  d : p.body ≤ s.size
  e : p.at_ ≤ s.size
  f : p.line ≤ p.at_
section
variable {s : ByteArray} {p : RP} {st : Bool} {t : Nat}
theorem cutS_at : (cutS t p st).at_ = p.at_ + t := by unfold cutS cutP; split; rfl; split <;> rfl
theorem cutS_line : (cutS t p st).line = p.line := by unfold cutS cutP; split; rfl; split <;> rfl
theorem cutS_start : (cutS t p st).start = p.start := by unfold cutS cutP; split; rfl; split <;> rfl
theorem OkP.cut (h : OkP s p) (ht : p.at_ + t ≤ s.size) : OkP s (cutS t p st) := by
  obtain ⟨a, b, c, d, e, f⟩ := h
  unfold cutS cutP
  split
  · constructor <;> simp only <;> omega
  · split
    · constructor <;> simp only <;> omega
    · constructor <;> simp only <;> omega
theorem OkP.feed (h : OkP s p) (ht : p.at_ + 1 ≤ s.size) : OkP s (feedP p) := by
  obtain ⟨a, b, c, d, e, f⟩ := h
  unfold feedP
  constructor <;> simp only <;> omega
theorem OkP.to (h : OkP s p) {j : Nat} (hj : p.at_ ≤ j) (hs : j ≤ s.size) : OkP s ⟨p.line, p.start, p.from_, p.body, j⟩ := by
  obtain ⟨a, b, c, d, e, f⟩ := h
  constructor <;> simp only <;> omega
theorem OkP.open (h : OkP s p) {hd : Nat} (ht : p.at_ + hd ≤ s.size) : OkP s (openS hd p st) := by
  have h' := h.cut (t := 0) (st := st) (by omega)
  obtain ⟨a, b, c, d, e, f⟩ := h'
  have h1 : (cutS 0 p st).at_ = p.at_ + 0 := cutS_at
  unfold openS
  constructor <;> simp only <;> omega
theorem openS_at {hd : Nat} : (openS hd p st).at_ = p.at_ + hd := by show (cutS 0 p st).at_ + hd = _; rw [cutS_at]; omega
end
set_option maxRecDepth 100000 in
set_option maxHeartbeats 8000000 in
theorem open_any (w : World) (rb : Nat) (s : ByteArray) (l n₀ : Nat) (J Jx : List PR → World → Prop) (X : List PR) (T : Tl l n₀ J Jx X) (hn : n₀ ≤ rb) (p : RP) (st : Bool) (pre : List PR) (h : Rs w rb s l J Jx X p st pre) (hd : Nat) (hd2 : hd ≤ 2)
    (hp : OkP s p) (hs : s.size ≤ 1000) (hX : st = false → (pre ++ emitP 0 0 p) <+: X) :
    Calls Tryd.prog 16 #[.pointer (some ⟨rb, 0, none⟩), .int .i64 hd] w fun e w' => (∃ v, e = .returned v) ∧ Below n₀ w w' ∧ ∃ st', (st = true → st' = true) ∧ Rs w' rb s l J Jx X (openS hd p st) st' (pre ++ emitP 0 0 p) := by
  have HC := cut_any w rb s l n₀ J Jx X T hn p st pre h 0 0 (by omega) (by omega) hp.a hp.c (by have := hp.a; have := hp.b; omega) (by have := hp.e; omega) (by have := hp.b; have := hp.e; omega) (by have := hp.d; omega) hX
  have HQ := hp.cut (t := 0) (st := st) (by have := hp.e; omega)
  have HA : (cutS 0 p st).at_ = p.at_ := cutS_at
  unfold openS
  generalize cutS 0 p st = q at *
  generalize emitP 0 0 p = em at *
  have HC' : Hid (Calls Tryd.prog 14 #[.pointer (some ⟨rb, 0, none⟩), .int .i64 0, .int .i64 0] w fun e w' => (∃ v, e = .returned v) ∧ Below n₀ w w' ∧ ∃ st', (st = true → st' = true) ∧ Rs w' rb s l J Jx X q st' (pre ++ em)) := HC
  have hqb : q.at_ ≤ 1000 := by have := HQ.e; omega
  clear HC h hX HQ HA hp
  obtain ⟨ln, sa, fr, bo, at0⟩ := q
  simp only at hqb ⊢
  obtain ⟨at1, ha1⟩ : ∃ at1, at0 + hd = at1 := ⟨_, rfl⟩
  rw [ha1]
  have e0 : ((at0 : Int) + (hd : Int)) = (at1 : Int) := by omega
  clear ha1
  go_enter Tryd.func16, Tryd.ntmps16
  go_wp2_with (go_at_call 14; refine HC'.out.mono ?_; rintro ev W1 ⟨⟨v, rfl⟩, hB, st', hst, hR⟩; (have c6 := hR.rd.c6); (have c5 := hR.rd.c5); (have f6 := hR.rd.fz 6); (have f5 := hR.rd.fz 5); simp only at c6 c5; (have HH : Hid (Below n₀ w W1 ∧ (st = true → st' = true) ∧ Rs W1 rb s l J Jx X ⟨ln, sa, fr, bo, at0⟩ st' (pre ++ em)) := ⟨hB, hst, hR⟩); clear hB hst hR)
  go_end0
  obtain ⟨hB, hst, hR⟩ := HH.out
  have hg : W1.grownBy ((W1.setCell ⟨rb, 6, none⟩ (.int .i64 at1)).setCell ⟨rb, 5, none⟩ (.int .i64 at1)) (some rb) := grown_set (grown_set (grown_refl _ _))
  exact ⟨⟨_, rfl⟩, hB.trans (Below.of_grown' hg hn (by have := hR.rd.lt; omega)), st', hst, hR.grown T hg ((hR.rd.s6 at1).s5 at1)⟩
end Go.Proofs.YtkbinfhclaafhaaDoor
