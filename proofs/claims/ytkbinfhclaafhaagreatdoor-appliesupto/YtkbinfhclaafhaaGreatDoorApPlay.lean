import Derived.Test.YtkbinfhclaafhaaGreatDoorApLaw
import Derived.Test.YtkbinfhclaafhaaGreatDoorUpTo
namespace Go.Proofs.YtkbinfhclaafhaaGreatDoor
open Go.RowKit

set_option maxRecDepth 100000 in
set_option maxHeartbeats 4000000 in
theorem goApply_zero (s : ByteArray) (ao : Option Addr) (cap : Nat) (w : World) (hs : s.size ≤ 140737488355328) :
    Calls Tryz.prog 24 #[.string s, .slice ao 0 cap] w fun e w' => e = .returned (.string ((⟨#[]⟩ : ByteArray) ++ s)) ∧ Below w.heap.size w w' := by
  have HNew : Hid (BAt (w.alloc (.cells #[.pointer none, .slice none 0 0] 64)) w.heap.size w.heap.size []) := bat_new w
  have HB1 : Hid (Below w.heap.size w (w.alloc (.cells #[.pointer none, .slice none 0 0] 64))) := (Below.refl _ _).alloc (Nat.le_refl _) _
  have hx : s.extract 0 s.size = s := by simp
  have HX : Hid (s.extract 0 s.size = s) := hx
  have hr : (⟨(([] : List UInt8) ++ s.data.toList).toArray⟩ : ByteArray) = (⟨#[]⟩ : ByteArray) ++ s := by rw [show ([] : List UInt8) = (⟨#[]⟩ : ByteArray).data.toList from rfl, ← app_data]
  obtain ⟨r, hr2⟩ : ∃ r, r = (⟨#[]⟩ : ByteArray) ++ s := ⟨_, rfl⟩
  rw [← hr2] at hr ⊢
  have HR : Hid _ := hr
  clear hr hr2 hx
  go_enter Tryz.func24, Tryz.ntmps24
  go_wp2
  refine wp_loop_rounds 1 ?_
  rw [rounds_succ]
  go_wp2_with fail
  try rw [HX.out]
  refine (write_any w.heap.size w.heap.size [] s _ HNew.out (by simpa using hs) HB1.out.size).mono ?_
  rintro ev w5 ⟨rfl, hT5, hB5, _⟩
  have HT5 : Hid _ := hT5
  have HB5 : Hid _ := HB1.out.trans hB5
  clear hT5 hB5
  go_wp2_with fail
  refine (string_any w.heap.size w.heap.size _ w5 HT5.out HB5.out.size).mono ?_
  rintro ev w6 ⟨rfl, hB6⟩
  have HB6 : Hid _ := HB5.out.trans hB6
  clear hB6
  rw [HR.out]
  go_wp2
  go_ret
  exact ⟨rfl, HB6.out⟩
set_option maxRecDepth 100000 in
set_option maxHeartbeats 8000000 in
theorem applied_zero (k a : Int) (s : ByteArray) (ao : Option Addr) (cap : Nat) (w : World) (hs : s.size ≤ 10000000) :
    Calls Tryz.prog 34 #[.agg #[.int .i64 k, .int .i64 a, .string s, .slice ao 0 cap]] w fun e w' => e = .returned (.bool true) ∧ Below w.heap.size w w' := by
  have HB0 : Hid (Below w.heap.size w (w.alloc (.cells #[.int .i64 k, .int .i64 a, .string s, .slice ao 0 cap] 29))) := (Below.refl _ _).alloc (Nat.le_refl _) _
  have HO : Hid ((w.alloc (.cells #[.int .i64 k, .int .i64 a, .string s, .slice ao 0 cap] 29)).heap[w.heap.size]? = some (.cells #[.int .i64 k, .int .i64 a, .string s, .slice ao 0 cap] 29 (0, 0))) := by show (w.heap.push _)[w.heap.size]? = _; simp
  have HG : Hid (∀ W, Calls Tryz.prog 24 #[.string s, .slice none 0 0] W fun e w' => e = .returned (.string ((⟨#[]⟩ : ByteArray) ++ s)) ∧ Below W.heap.size W w') := fun W => goApply_zero s none 0 W (by omega)
  have HF : Hid (∀ W, Calls Tryz.prog 53 #[.string s, .slice ao 0 cap] W fun e w' => e = .returned (.string ((⟨#[]⟩ : ByteArray) ++ s)) ∧ Below W.heap.size W w') := fun W => refApply_zero s ao cap W (by omega)
  obtain ⟨r, hr⟩ : ∃ r, r = (⟨#[]⟩ : ByteArray) ++ s := ⟨_, rfl⟩
  rw [← hr] at HG HF
  clear hr
  go_enter Tryz.func34, Tryz.ntmps34
  go_wp2
  refine wp_loop_rounds 1 ?_
  rw [rounds_succ]
  go_wp2_with fail
  refine (HG.out _).mono ?_
  rintro ev w1 ⟨rfl, hb1⟩
  have HB1 : Hid (Below w.heap.size w w1) := HB0.out.trans (hb1.mono HB0.out.size)
  have HO1 : Hid (w1.heap[w.heap.size]? = some (.cells #[.int .i64 k, .int .i64 a, .string s, .slice ao 0 cap] 29 (0, 0))) := heap_keep hb1 HO.out
  obtain ⟨c2, c3⟩ := op_cells4 HO1.out
  clear hb1
  go_wp2_with fail
  refine (HF.out _).mono ?_
  rintro ev w2 ⟨rfl, hb2⟩
  have HB2 : Hid (Below w.heap.size w w2) := HB1.out.trans (hb2.mono HB1.out.size)
  have HO2 : Hid (w2.heap[w.heap.size]? = some (.cells #[.int .i64 k, .int .i64 a, .string s, .slice ao 0 cap] 29 (0, 0))) := heap_keep hb2 HO1.out
  clear hb2 c2 c3
  obtain ⟨c2, c3⟩ := op_cells4 HO2.out
  go_wp2
  refine wp_loop_rounds 1 ?_
  rw [rounds_succ]
  go_wp2
  go_ret
  exact ⟨rfl, HB2.out⟩
/-- What is asked of a step of the kind that applies edits. -/
def ApOk (w : World) (o : OpD) : Prop := o.s.size ≤ 1048576 ∧ ((∃ ao cap, o.e = .slice ao 0 cap) ∨ ∃ b off m cap, ∃ es : List Ed, o.e = .slice (some ⟨b, off, none⟩) m cap ∧ es.length = m ∧ 0 < m ∧ m ≤ 1048576 ∧ EdsAt w b off es ∧ sumN es ≤ 1048576 ∧ ∀ e ∈ es, e.a ≤ 9223372036854775807)
theorem applied_any (o : OpD) (w : World) (h : ApOk w o) : Calls Tryz.prog 34 #[opV o] w fun e w' => e = .returned (.bool true) ∧ Below w.heap.size w w' := by
  obtain ⟨k, a, s, oe⟩ := o
  obtain ⟨hs, ⟨ao, cap, he⟩ | ⟨b, off, m, cap, es, he, hl, h0, hm, hE, hN, hA⟩⟩ := h
  · simp only at he hs
    subst he
    exact applied_zero k a s ao cap w (by omega)
  · simp only at he hs
    subst he
    exact applied_row k a s es b off m cap w hl h0 hm hE (by omega) hA
theorem ApOk.below {w w' : World} {o : OpD} (h : ApOk w o) (hb : Below w.heap.size w w') : ApOk w' o := by
  obtain ⟨hs, h | ⟨b, off, m, cap, es, he, hl, h0, hm, hE, hN, hA⟩⟩ := h
  · exact ⟨hs, .inl h⟩
  · exact ⟨hs, .inr ⟨b, off, m, cap, es, he, hl, h0, hm, hE.below hb, hN, hA⟩⟩
set_option maxRecDepth 100000 in
set_option maxHeartbeats 4000000 in
theorem plays_apply (o : OpD) (w : World) (hk : o.k = 7) (h : ApOk w o) :
    Calls Tryz.prog 18 #[opV o] w fun e w' => e = .returned (.bool true) ∧ Below w.heap.size w w' := by
  have HA : Hid (∀ W, Below w.heap.size w W → Calls Tryz.prog 34 #[opV o] W fun e w' => e = .returned (.bool true) ∧ Below W.heap.size W w') := fun W hW => applied_any o W (h.below hW)
  clear h
  obtain ⟨k, a, s, oe⟩ := o
  simp only at hk
  subst hk
  unfold opV at HA ⊢
  simp only at HA ⊢
  have hb0 : Below w.heap.size w (w.alloc (.cells #[.int .i64 7, .int .i64 a, .string s, oe] 29)) := (Below.refl _ _).alloc (Nat.le_refl _) _
  have HB0 : Hid _ := hb0
  clear hb0
  go_enter Tryz.func18, Tryz.ntmps18
  go_wp2_with fail
  refine (HA.out _ HB0.out).mono ?_
  rintro e w1 ⟨rfl, hb1⟩
  have HB1 : Hid (Below w.heap.size w w1) := HB0.out.trans (hb1.mono HB0.out.size)
  clear hb1
  go_wp2
  go_ret
  exact ⟨rfl, HB1.out⟩
theorem applies_law_row (ops : List OpD) (b off cap n : Nat) (w : World) (hl : ops.length = n) (hn : n ≤ 1000000000000000) (hc : OpsAt w b off ops) (hs : ∀ o ∈ ops, ApOk w o) :
    Calls Tryz.prog 10 #[.slice (some ⟨b, off, none⟩) n cap] w fun e w' => e = .returned (.bool true) ∧ Below w.heap.size w w' := by
  have HU : Hid (Calls Tryz.prog 13 #[.slice (some ⟨b, off, none⟩) n cap, .int .i64 7, .int .i64 7] w fun e w' => e = .returned (.int .i64 (-1)) ∧ Below w.heap.size w w') :=
    upTo_true ops b off cap n 7 7 w hl hn hc fun o ho h1 h2 W hW => plays_apply o W (by omega) ((hs o ho).below hW)
  clear hc hs
  go_enter Tryz.func10, Tryz.ntmps10
  go_wp2_with fail
  refine HU.out.mono ?_
  rintro e w1 ⟨rfl, hb⟩
  go_wp2
  go_ret
  exact ⟨rfl, hb⟩
theorem applies_law_zero (ao : Option Addr) (cap : Nat) (w : World) :
    Calls Tryz.prog 10 #[.slice ao 0 cap] w fun e w' => e = .returned (.bool true) ∧ Below w.heap.size w w' := by
  go_enter Tryz.func10, Tryz.ntmps10
  go_wp2_with fail
  refine (upTo_zero ao cap 7 7 w).mono ?_
  rintro e w1 ⟨rfl, hb⟩
  go_wp2
  go_ret
  exact ⟨rfl, hb⟩
end Go.Proofs.YtkbinfhclaafhaaGreatDoor
