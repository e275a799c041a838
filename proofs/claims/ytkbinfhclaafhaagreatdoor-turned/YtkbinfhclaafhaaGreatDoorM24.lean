import Derived.Test.YtkbinfhclaafhaaGreatDoorM22
import Derived.Test.YtkbinfhclaafhaaGreatDoorM23
import Derived.Test.YtkbinfhclaafhaaGreatDoorM01
import Derived.Test.YtkbinfhclaafhaaGreatDoorM21
import Derived.Test.YtkbinfhclaafhaaGreatDoorShelf
import Derived.Lib.IndexAny
namespace Go.Proofs.YtkbinfhclaafhaaGreatDoor
open Go.RowKit
attribute [local go_sem ↓] Go.wp_at_zero Go.wp_at_succ
theorem mk0C (w : World) : (Instr.makeSlice 139 (.int .i64 0) (.int .i64 0)).run Tryz.prog w = .ok (.slice (some ⟨w.heap.size, 0, none⟩) 0 0) (w.alloc (.cells (madeCells #[.int .i64 0] 0) 108)) :=
 run_make_row' (P := Tryz.prog) 139 108 (.int .i64 0) 8 Tryz.underlying139 Tryz.infoCls rfl .i64 .i64 0 (by omega) (by omega) w
def Ln0 (W : World) (lb gc gl gm : Nat) (p : Int) : Prop := LB W lb (.slice none 0 0) (.slice none 0 0) (.slice (some ⟨gc, 0, none⟩) 0 0) (.slice (some ⟨gl, 0, none⟩) 0 0) (.slice (some ⟨gm, 0, none⟩) 0 0) (.int .i64 p)
set_option maxRecDepth 100000 in
set_option maxHeartbeats 4000000 in
theorem matches_nil (w : World) : Calls Tryz.prog 140 #[.slice none 0 0] w fun e w' => ∃ g, e = .returned (.slice (some ⟨g, 0, none⟩) 0 0) ∧ Below w.heap.size w w' := by
 have hmk := mk0I
 go_enter Tryz.func140, Tryz.ntmps140
 go_wp2
 refine wp_loop_rounds 1 ?_
 rw [rounds_succ]
 go_wp2
 go_ret
 exact ⟨_, rfl, ((Below.refl _ _).alloc (Nat.le_refl _) _).alloc (by simp) _⟩
set_option maxRecDepth 100000 in
theorem foundP_nil (w : World) (lb : Nat) : Calls Tryz.prog 199 #[.pointer (some ⟨lb, 0, none⟩), .int .i64 0, .int .i64 0] w fun e w' => e = .returned (.int .i64 0) ∧ w' = w := by
 go_enter Tryz.func199, Tryz.ntmps199
 go_wp2
 refine wp_loop_rounds 1 ?_
 rw [rounds_succ]
 go_wp2
 go_ret
 exact ⟨rfl, rfl⟩
set_option maxRecDepth 100000 in
set_option maxHeartbeats 4000000 in
theorem para_nil (w : World) (lb : Nat) (a0 a2 a3 a4 a5 : Value) (h : LB w lb a0 (.slice none 0 0) a2 a3 a4 a5) (d : Int) : Calls Tryz.prog 141 #[.pointer (some ⟨lb, 0, none⟩), .int .i64 d] w fun e w' => e = .returned (.int .i64 (paraL [] d)) ∧ w' = w := by
 have c1 := h.c1
 clear h
 by_cases h0 : d = 0
 ·subst h0
  go_enter Tryz.func141, Tryz.ntmps141
  go_wp2
  go_ret
  exact ⟨rfl, rfl⟩
 by_cases h1 : d = 1
 ·subst h1
  go_enter Tryz.func141, Tryz.ntmps141
  go_wp2
  go_ret
  exact ⟨rfl, rfl⟩
 have q0 : (d == 0) = false := by simpa using h0
 have q1 : (d == 1) = false := by simpa using h1
 have HP : Hid (paraL [] d = 0) := by show _ = _; rw [paraL, if_neg (by omega)]; rfl
 have HF : Hid (∀ W, Calls Tryz.prog 199 #[.pointer (some ⟨lb, 0, none⟩), .int .i64 0, .int .i64 0] W fun e w' => e = .returned (.int .i64 0) ∧ w' = W) := fun W => foundP_nil W lb
 clear h0 h1
 go_enter Tryz.func141, Tryz.ntmps141
 go_wp2_with fail
 refine (HF.out _).mono ?_
 rintro ev wx ⟨rfl, hx⟩
 have hx' := hx.symm
 subst hx'
 go_wp2
 go_ret
 exact ⟨ret_int (by rw [HP.out]), rfl⟩
set_option maxRecDepth 100000 in
set_option maxHeartbeats 8000000 in
theorem newLine_nil (s : ByteArray) (d : Int) (w : World) (hs : s.size = 0) :
  Calls Tryz.prog 84 #[.string s, .int .i64 d] w fun e w' => ∃ lb gc gl gm, e = .returned (.pointer (some ⟨lb, 0, none⟩)) ∧ Ln0 w' lb gc gl gm (paraL [] d) ∧ w.heap.size ≤ lb ∧ Below w.heap.size w w' := by
 have hmkC := mk0C
 have hmkI := mk0I
 have hcp : ∀ (W : World) (g : Nat), (Builtin.copy_ #[139, 139] 3 #[.slice (some ⟨g, 0, none⟩) 0 0, .slice none 0 0]).run Tryz.prog W = .ok (goInt 0) W := fun W g => run_copy_none (P := Tryz.prog) W 139 139 3 108 _ _ 0 0 0 0 Tryz.underlying139 Tryz.sizeCls rfl
 obtain ⟨W0, hW0⟩ : ∃ W0, W0 = w.alloc (.cells #[.slice none 0 0, .slice none 0 0, .slice none 0 0, .slice none 0 0, .slice none 0 0, .int .i64 0] 141) := ⟨_, rfl⟩
 have hb0 : Below w.heap.size w W0 := by rw [hW0]; exact (Below.refl _ _).alloc (Nat.le_refl _) _
 have h0c : W0.heap[w.heap.size]? = some (.cells #[.slice none 0 0, .slice none 0 0, .slice none 0 0, .slice none 0 0, .slice none 0 0, .int .i64 0] 141 (0, 0)) := by rw [hW0]; exact Array.getElem?_push_size
 have h0z : W0.heap.size = w.heap.size + 1 := by rw [hW0]; simp
 have HPa : Hid (∀ (W : World) (lb : Nat) (a0 a2 a3 a4 a5 : Value), LB W lb a0 (.slice none 0 0) a2 a3 a4 a5 → Calls Tryz.prog 141 #[.pointer (some ⟨lb, 0, none⟩), .int .i64 d] W fun e w' => e = .returned (.int .i64 (paraL [] d)) ∧ w' = W) := fun W lb a0 a2 a3 a4 a5 h => para_nil W lb a0 a2 a3 a4 a5 h d
 generalize paraL [] d = pp at *
 go_enter Tryz.func84, Tryz.ntmps84
 go_wp2
 rw [← hW0]
 obtain ⟨W1, hW1⟩ : ∃ W1, W1 = (W0.iter s 0) := ⟨_, rfl⟩
 have hbi : Below W0.heap.size W0 (W0.iter s 0) := (Below.refl _ _).alloc (Nat.le_refl _) _
 have HN1 : Hid (LB W1 w.heap.size (.slice none 0 0) (.slice none 0 0) (.slice none 0 0) (.slice none 0 0) (.slice none 0 0) (.int .i64 0) ∧ W1.heap[w.heap.size + 1]? = some (.stringIter s 0) ∧ Below w.heap.size w W1) := by
  rw [hW1]
  exact ⟨heap_keep hbi h0c, by rw [← h0z]; exact World.iter_heap _ _ _, hb0.alloc hb0.size _⟩
 rw [← hW1]
 clear hW1 hW0 hb0 h0c h0z hbi
 obtain ⟨lb, hlb⟩ : ∃ lb, lb = w.heap.size := ⟨_, rfl⟩
 obtain ⟨it, hit⟩ : ∃ it, it = w.heap.size + 1 := ⟨_, rfl⟩
 have HLb : Hid (w.heap.size ≤ lb) := by show _ ≤ _; omega
 have HN2 : Hid (LB W1 lb (.slice none 0 0) (.slice none 0 0) (.slice none 0 0) (.slice none 0 0) (.slice none 0 0) (.int .i64 0) ∧ W1.heap[it]? = some (.stringIter s 0) ∧ Below w.heap.size w W1) := by rw [hlb, hit]; exact HN1.out
 rw [← hit, ← hlb]
 clear HN1 hlb hit
 go_loopg [7] 0 (fun gk _ W => gk = 0 ∧ LB W lb (.slice none 0 0) (.slice none 0 0) (.slice none 0 0) (.slice none 0 0) (.slice none 0 0) (.int .i64 0) ∧ W.heap[it]? = some (.stringIter s 0) ∧ Below w.heap.size w W)
 case atStart => exact ⟨rfl, HN2.out.1, HN2.out.2.1, HN2.out.2.2⟩
 case round =>
  clear HN2
  obtain ⟨rfl, hLB, hIt, hB⟩ := hrel
  have hnx : ∀ ty, (Instr.next (.pointer (some ⟨it, 0, none⟩)) true ty).run Tryz.prog wr = .ok (.tuple #[.bool false]) wr := fun ty => Lib.run_next_end_at wr it s 0 ty hIt (by omega)
  have c1 := hLB.c1
  have hL1 : LB (wr.alloc (.cells (madeCells #[.int .i64 0] 0) 108)) lb _ _ _ _ _ _ := hLB.grown (alloc_grown2 wr _ none) (by simp)
  obtain ⟨d2, e2⟩ := hL1.c2
  have hL2 := hL1.s2 (.slice (some ⟨wr.heap.size, 0, none⟩) 0 0)
  have hB2 : Below w.heap.size w ((wr.alloc (.cells (madeCells #[.int .i64 0] 0) 108)).setCell ⟨lb, 2, none⟩ (.slice (some ⟨wr.heap.size, 0, none⟩) 0 0)) := (hB.alloc hB.size _).setCell (p := ⟨lb, 2, none⟩) HLb.out _
  have H2 : Hid _ := And.intro hL2 hB2
  clear hLB hL1 hL2 hB2 hB hIt
  obtain ⟨gc, hgc⟩ : ∃ gc, gc = wr.heap.size := ⟨_, rfl⟩
  go_wp2
  generalize ((wr.alloc (.cells (madeCells #[.int .i64 0] 0) 108)).setCell ⟨lb, 2, none⟩ (.slice (some ⟨wr.heap.size, 0, none⟩) 0 0)) = W2 at *
  rw [← hgc] at H2 ⊢
  clear hgc c1 d2 e2 hnx
  obtain ⟨hL2, hB2⟩ := H2.out
  clear H2
  obtain ⟨c2, _⟩ := hL2.c2
  have c1 := hL2.c1
  have H3 : Hid (LB W2 lb _ _ _ _ _ _ ∧ Below w.heap.size w W2) := ⟨hL2, hB2⟩
  clear hL2 hB2
  go_region
  all_goals
   clear c1 c2
   have hL3 : LB W2.drew lb _ _ _ _ _ _ := H3.out.1
   have hB3 : Below w.heap.size w W2.drew := H3.out.2.drew
   clear H3
   generalize W2.drew = W3 at *
   have hL4 : LB (W3.alloc (.cells (madeCells #[.int .i64 0] 0) 3)) lb _ _ _ _ _ _ := hL3.grown (alloc_grown2 W3 _ none) (by simp)
   have c1 := hL3.c1
   obtain ⟨d3, e3⟩ := hL4.c3
   have hL5 := hL4.s3 (.slice (some ⟨W3.heap.size, 0, none⟩) 0 0)
   have c1b := hL5.c1
   have hB5 : Below w.heap.size w ((W3.alloc (.cells (madeCells #[.int .i64 0] 0) 3)).setCell ⟨lb, 3, none⟩ (.slice (some ⟨W3.heap.size, 0, none⟩) 0 0)) := (hB3.alloc hB3.size _).setCell (p := ⟨lb, 3, none⟩) HLb.out _
   have H5 : Hid _ := And.intro hL5 hB5
   clear hL3 hB3 hL4 hL5 hB5
   obtain ⟨gl, hgl⟩ : ∃ gl, gl = W3.heap.size := ⟨_, rfl⟩
   go_wp2_with fail
   generalize ((W3.alloc (.cells (madeCells #[.int .i64 0] 0) 3)).setCell ⟨lb, 3, none⟩ (.slice (some ⟨W3.heap.size, 0, none⟩) 0 0)) = W5 at *
   rw [← hgl] at H5 ⊢
   clear hgl c1 d3 e3 c1b
   refine (matches_nil W5).mono ?_
   rintro ev W6 ⟨gm, rfl, hb6⟩
   have hL6 := H5.out.1.below hb6
   obtain ⟨d4, e4⟩ := hL6.c4
   have hL7 := hL6.s4 (.slice (some ⟨gm, 0, none⟩) 0 0)
   have hB7 : Below w.heap.size w (W6.setCell ⟨lb, 4, none⟩ (.slice (some ⟨gm, 0, none⟩) 0 0)) := (H5.out.2.trans (hb6.mono H5.out.2.size)).setCell (p := ⟨lb, 4, none⟩) HLb.out _
   have H7 : Hid _ := And.intro hL7 hB7
   have HPx : Hid (Calls Tryz.prog 141 #[.pointer (some ⟨lb, 0, none⟩), .int .i64 d] (W6.setCell ⟨lb, 4, none⟩ (.slice (some ⟨gm, 0, none⟩) 0 0)) fun e w' => e = .returned (.int .i64 pp) ∧ w' = (W6.setCell ⟨lb, 4, none⟩ (.slice (some ⟨gm, 0, none⟩) 0 0))) := HPa.out _ _ _ _ _ _ _ hL7
   clear hL6 hL7 hB7 hb6 H5
   go_wp2_with fail
   generalize (W6.setCell ⟨lb, 4, none⟩ (.slice (some ⟨gm, 0, none⟩) 0 0)) = W7 at *
   refine HPx.out.mono ?_
   rintro ev wx ⟨rfl, hx⟩
   have hx' := hx.symm
   subst hx'
   clear HPx d4 e4
   obtain ⟨d5, e5⟩ := H7.out.1.c5
   have HF : Hid (Ln0 (W7.setCell ⟨lb, 5, none⟩ (.int .i64 pp)) lb gc gl gm pp ∧ Below w.heap.size w (W7.setCell ⟨lb, 5, none⟩ (.int .i64 pp))) := ⟨H7.out.1.s5 (.int .i64 pp), H7.out.2.setCell (p := ⟨lb, 5, none⟩) HLb.out _⟩
   clear H7
   go_wp2
   go_ret
   exact ⟨lb, gc, gl, gm, rfl, HF.out.1, HLb.out, HF.out.2⟩
set_option maxRecDepth 100000 in
set_option maxHeartbeats 4000000 in
theorem setExpl_nil (w : World) (lb gc gl gm : Nat) (p : Int) (h : Ln0 w lb gc gl gm p) :
  Calls Tryz.prog 85 #[.pointer (some ⟨lb, 0, none⟩)] w fun e w' => e = .returned (.tuple #[]) ∧ Below w.heap.size w w' := by
 obtain ⟨s, hs⟩ : ∃ s, s = w.heap.size := ⟨_, rfl⟩
 have hb1 : Below w.heap.size w (w.alloc (.cells #[.pointer (some ⟨lb, 0, none⟩), .slice none 0 0, .int .i64 0, .int .i64 0, .int .i64 0] 212)) := (Below.refl _ _).alloc (Nat.le_refl _) _
 have HW1 : Hid (WAt (w.alloc (.cells #[.pointer (some ⟨lb, 0, none⟩), .slice none 0 0, .int .i64 0, .int .i64 0, .int .i64 0] 212)) w.heap.size s (.slice none 0 0) (.pointer (some ⟨lb, 0, none⟩)) ⟨[], 0, 0, 0⟩) :=
  ⟨by rw [hs]; exact Array.getElem?_push_size, ⟨rfl, .inl ⟨rfl, rfl⟩⟩, by rw [hs]; exact Nat.le_refl _⟩
 have c5 : (w.alloc (.cells #[.pointer (some ⟨lb, 0, none⟩), .slice none 0 0, .int .i64 0, .int .i64 0, .int .i64 0] 212)).cell? ⟨lb, 5, none⟩ = some (.int .i64 p) := (LB.below h hb1).c5.1
 have HB1 : Hid (Below w.heap.size w (w.alloc (.cells #[.pointer (some ⟨lb, 0, none⟩), .slice none 0 0, .int .i64 0, .int .i64 0, .int .i64 0] 212))) := hb1
 have HX : Hid (∀ W, Below w.heap.size w W → Ln0 W lb gc gl gm p) := fun W hb => LB.below h hb
 clear h hb1
 go_enter Tryz.func85, Tryz.ntmps85
 go_wp2_with fail
 rw [← hs]
 clear hs
 refine (pushE_any _ w.heap.size s _ _ _ p (-1) false HW1.out (by simp)).mono ?_
 rintro ev w2 ⟨rfl, v2, hW, hF⟩
 have HB2 : Hid (Below w.heap.size w w2) := hF.belowW HW1.out HB1.out
 have a1 : w2.cell? ⟨lb, 1, none⟩ = some (.slice none 0 0) := (HX.out w2 HB2.out).c1
 clear hW hF HW1 HB1 c5
 go_wp2
 refine wp_loop_rounds 1 ?_
 rw [rounds_succ]
 go_wp2
 go_end0
 exact ⟨rfl, HB2.out⟩
set_option maxRecDepth 100000 in
set_option maxHeartbeats 4000000 in
theorem left_nil (w : World) (lb gc gl gm : Nat) (p : Int) (h : Ln0 w lb gc gl gm p) :
  Calls Tryz.prog 218 #[.pointer (some ⟨lb, 0, none⟩)] w fun e w' => e = .returned (.slice none 0 0) ∧ w' = w := by
 have c1 := LB.c1 h
 clear h
 go_enter Tryz.func218, Tryz.ntmps218
 go_wp2
 refine wp_loop_rounds 1 ?_
 rw [rounds_succ]
 go_wp2
 go_ret
 exact ⟨rfl, rfl⟩
set_option maxRecDepth 100000 in
set_option maxHeartbeats 4000000 in
theorem runs_nil (w : World) (lb gc gl gm : Nat) (p : Int) (h : Ln0 w lb gc gl gm p) :
  Calls Tryz.prog 154 #[.pointer (some ⟨lb, 0, none⟩)] w fun e w' => e = .returned (.slice none 0 0) ∧ w' = w := by
 have HL : Hid (Ln0 w lb gc gl gm p) := h
 clear h
 go_enter Tryz.func154, Tryz.ntmps154
 go_wp2_with fail
 refine (left_nil w lb gc gl gm p HL.out).mono ?_
 rintro ev wx ⟨rfl, hx⟩
 have hx' := hx.symm
 subst hx'
 go_wp2
 refine wp_loop_rounds 1 ?_
 rw [rounds_succ]
 go_wp2
 go_ret
 exact ⟨rfl, rfl⟩
set_option maxRecDepth 100000 in
set_option maxHeartbeats 4000000 in
theorem seqs_nil (w : World) (lb gc gl gm : Nat) (p : Int) (h : Ln0 w lb gc gl gm p) :
  Calls Tryz.prog 87 #[.pointer (some ⟨lb, 0, none⟩)] w fun e w' => e = .returned (.slice none 0 0) ∧ Below w.heap.size w w' := by
 have hmm := @run_makeMap Tryz.prog
 have hmf : ∀ (fn : Fn) (first cap : Array Value) (w : World), (Instr.makeFunc fn first cap).run Tryz.prog w = .ok (.func fn first cap) w := fun _ _ _ _ => rfl
 have HL : Hid (Ln0 (w.alloc (.cells #[.pointer (some ⟨lb, 0, none⟩)] 136)) lb gc gl gm p) := LB.below h ((Below.refl _ _).alloc (Nat.le_refl _) _)
 clear h
 go_enter Tryz.func87, Tryz.ntmps87
 go_wp2_with fail
 refine (runs_nil _ lb gc gl gm p HL.out).mono ?_
 rintro ev wx ⟨rfl, hx⟩
 subst hx
 clear HL
 go_wp2
 refine wp_loop_rounds 1 ?_
 rw [rounds_succ]
 go_wp2
 refine wp_loop_rounds 1 ?_
 rw [rounds_succ]
 go_wp2
 go_ret
 exact ⟨rfl, (((Below.refl _ _).alloc (Nat.le_refl _) _).alloc (by simp) _).alloc (by simp; omega) _⟩
set_option maxRecDepth 100000 in
set_option maxHeartbeats 4000000 in
theorem each_nil (f g : Value) (w : World) : Calls Tryz.prog 97 #[.int .i64 0, f, g] w fun e w' => e = .returned (.tuple #[]) ∧ w' = w := by
 go_enter Tryz.func97, Tryz.ntmps97
 go_wp2
 refine wp_loop_rounds 1 ?_
 rw [rounds_succ]
 go_wp2
 go_end0
 exact ⟨rfl, rfl⟩
set_option maxRecDepth 100000 in
set_option maxHeartbeats 4000000 in
theorem fill_nil (w : World) (lb gc gl gm : Nat) (p : Int) (h : Ln0 w lb gc gl gm p) (go : Nat) :
  Calls Tryz.prog 164 #[.pointer (some ⟨lb, 0, none⟩), .slice (some ⟨go, 0, none⟩) 0 0] w fun e w' => e = .returned (.tuple #[]) ∧ w' = w := by
 have c5 := (LB.c5 h).1
 clear h
 go_enter Tryz.func164, Tryz.ntmps164
 go_wp2
 refine wp_loop_rounds 1 ?_
 rw [rounds_succ]
 go_wp2
 go_end0
 exact ⟨rfl, rfl⟩
set_option maxRecDepth 100000 in
set_option maxHeartbeats 4000000 in
theorem last_nil (w : World) (lb gc gl gm : Nat) (p : Int) (h : Ln0 w lb gc gl gm p) (go : Nat) :
  Calls Tryz.prog 89 #[.pointer (some ⟨lb, 0, none⟩), .slice (some ⟨go, 0, none⟩) 0 0] w fun e w' => e = .returned (.tuple #[]) ∧ Below w.heap.size w w' := by
 have hmf : ∀ (fn : Fn) (first cap : Array Value) (w : World), (Instr.makeFunc fn first cap).run Tryz.prog w = .ok (.func fn first cap) w := fun _ _ _ _ => rfl
 have hb : Below w.heap.size w ((w.alloc (.cells #[.pointer (some ⟨lb, 0, none⟩)] 136)).alloc (.cells #[.slice (some ⟨go, 0, none⟩) 0 0] 31)) := ((Below.refl _ _).alloc (Nat.le_refl _) _).alloc (by simp) _
 have hL : Ln0 ((w.alloc (.cells #[.pointer (some ⟨lb, 0, none⟩)] 136)).alloc (.cells #[.slice (some ⟨go, 0, none⟩) 0 0] 31)) lb gc gl gm p := LB.below h hb
 have c1 := LB.c1 hL
 have HL : Hid _ := hL
 have HB : Hid _ := hb
 have HE : Hid (∀ (f g : Value) (W : World), Calls Tryz.prog 97 #[.int .i64 0, f, g] W fun e w' => e = .returned (.tuple #[]) ∧ w' = W) := each_nil
 clear h hL hb
 go_enter Tryz.func89, Tryz.ntmps89
 go_wp2
 refine wp_loop_rounds 1 ?_
 rw [rounds_succ]
 go_wp2_with fail
 refine (HE.out _ _ _).mono ?_
 rintro ev wx ⟨rfl, hx⟩
 subst hx
 go_wp2_with fail
 refine (fill_nil _ lb gc gl gm p HL.out go).mono ?_
 rintro ev wx ⟨rfl, hx⟩
 subst hx
 go_wp2
 go_end0
 exact ⟨rfl, HB.out⟩
set_option maxRecDepth 100000 in
set_option maxHeartbeats 8000000 in
theorem bLevels_nil (s : ByteArray) (d : Int) (w : World) (hs : s.size = 0) :
  Calls Tryz.prog 55 #[.string s, .int .i64 d] w fun e w' => ∃ g, e = .returned (.slice (some ⟨g, 0, none⟩) 0 0) ∧ RowAt w' w.heap.size 3 g 0 (iv []) ∧ Below w.heap.size w w' := by
 have hmkI := mk0I
 have hcp : ∀ (W : World) (g g1 : Nat), (Builtin.copy_ #[31, 31] 3 #[.slice (some ⟨g, 0, none⟩) 0 0, .slice (some ⟨g1, 0, none⟩) 0 0]).run Tryz.prog W = .ok (goInt 0) W := fun W g g1 => run_copy_none (P := Tryz.prog) W 31 31 3 3 _ _ 0 0 0 0 Tryz.underlying31 Tryz.sizeInt rfl
 have HNew : Hid (Calls Tryz.prog 84 #[.string s, .int .i64 d] w fun e w' => ∃ lb gc gl gm, e = .returned (.pointer (some ⟨lb, 0, none⟩)) ∧ Ln0 w' lb gc gl gm (paraL [] d) ∧ w.heap.size ≤ lb ∧ Below w.heap.size w w') := newLine_nil s d w hs
 clear hs
 generalize paraL [] d = pp at *
 go_enter Tryz.func55, Tryz.ntmps55
 go_wp2_with fail
 refine HNew.out.mono ?_
 rintro ev w1 ⟨lb, gc, gl, gm, rfl, hL1, _, hb1⟩
 have HL1 : Hid (Ln0 w1 lb gc gl gm pp) := hL1
 have HB1 : Hid (Below w.heap.size w w1) := hb1
 clear HNew hL1 hb1
 go_wp2_with fail
 refine (setExpl_nil w1 lb gc gl gm pp HL1.out).mono ?_
 rintro ev w2 ⟨rfl, hb2⟩
 have hL2 : Ln0 w2 lb gc gl gm pp := LB.below HL1.out hb2
 have hB2 : Below w.heap.size w w2 := HB1.out.trans (hb2.mono HB1.out.size)
 have c3 := (LB.c3 hL2).1
 have hb3 : Below w2.heap.size w2 (w2.alloc (.cells (madeCells #[.int .i64 0] 0) 3)) := (Below.refl _ _).alloc (Nat.le_refl _) _
 have hL3 : Ln0 (w2.alloc (.cells (madeCells #[.int .i64 0] 0) 3)) lb gc gl gm pp := LB.below hL2 hb3
 have c3b := (LB.c3 hL3).1
 have HO3 : Hid (RowAt (w2.alloc (.cells (madeCells #[.int .i64 0] 0) 3)) w.heap.size 3 w2.heap.size 0 (List.replicate 0 (.int .i64 0))) := RowAt.made hB2.size (by omega)
 have H3 : Hid (Ln0 (w2.alloc (.cells (madeCells #[.int .i64 0] 0) 3)) lb gc gl gm pp ∧ Below w.heap.size w (w2.alloc (.cells (madeCells #[.int .i64 0] 0) 3))) := ⟨hL3, hB2.trans (hb3.mono hB2.size)⟩
 clear hL2 hB2 hb2 hb3 hL3 HL1 HB1
 obtain ⟨go, hgo⟩ : ∃ go, go = w2.heap.size := ⟨_, rfl⟩
 go_wp2_with fail
 generalize w2.alloc (.cells (madeCells #[.int .i64 0] 0) 3) = W3 at *
 rw [← hgo] at HO3 ⊢
 clear hgo c3 c3b hmkI hcp
 refine (rules_row W3).mono ?_
 rintro ev W4 ⟨g, rfl, _, _, _, hb4⟩
 have HL4 : Hid (Ln0 W4 lb gc gl gm pp) := LB.below H3.out.1 hb4
 have HB4 : Hid (Below w.heap.size w W4) := H3.out.2.trans (hb4.mono H3.out.2.size)
 have HO4 : Hid (RowAt W4 w.heap.size 3 go 0 (List.replicate 0 (.int .i64 0))) := own_below HO3.out hb4
 clear H3 HO3 hb4
 go_wp2_with fail
 refine (seqs_nil W4 lb gc gl gm pp HL4.out).mono ?_
 rintro ev W5 ⟨rfl, hb5⟩
 have HL5 : Hid (Ln0 W5 lb gc gl gm pp) := LB.below HL4.out hb5
 have HB5 : Hid (Below w.heap.size w W5) := HB4.out.trans (hb5.mono HB4.out.size)
 have HO5 : Hid (RowAt W5 w.heap.size 3 go 0 (List.replicate 0 (.int .i64 0))) := own_below HO4.out hb5
 clear HL4 HB4 HO4 hb5
 go_wp2
 refine wp_loop_rounds 1 ?_
 rw [rounds_succ]
 go_wp2_with fail
 refine (last_nil W5 lb gc gl gm pp HL5.out go).mono ?_
 rintro ev W6 ⟨rfl, hb6⟩
 have HF : Hid (RowAt W6 w.heap.size 3 go 0 (List.replicate 0 (.int .i64 0)) ∧ Below w.heap.size w W6) := ⟨own_below HO5.out hb6, HB5.out.trans (hb6.mono HB5.out.size)⟩
 clear HL5 HB5 HO5 hb6
 go_wp2
 go_ret
 exact ⟨go, rfl, HF.out.1, HF.out.2⟩
end Go.Proofs.YtkbinfhclaafhaaGreatDoor
namespace Go.Proofs.YtkbinfhclaafhaaGreatDoor
open Go.RowKit
def lineL (s : ByteArray) (d : Int) : List Int := if askErr s = 0 then levelsL (askRunes s) ((askRunes s).map cls) d else []
theorem own_lower {w : World} {B n z : Nat} {v : Value} {e : TypeId} {xs : List Value} (h : w.ownsRow (B + 1) e z v n xs) : w.ownsRow B e z v n xs := by
 refine ⟨h.1, ?_⟩
 rcases h.2 with h | ⟨g, c, cur, e1, h3, h4⟩
 ·exact .inl h
 ·exact .inr ⟨g, c, cur, e1, by omega, h4⟩
set_option maxRecDepth 100000 in
set_option maxHeartbeats 4000000 in
theorem refLine_err (s : ByteArray) (d : Int) (w : World) (he : askErr s ≠ 0) :
  Calls Tryz.prog 29 #[.string s, .int .i64 d] w fun e w' => e = .returned (.tuple #[.slice none 0 0, faultV (askErr s)]) ∧ Below w.heap.size w w' := by
 go_enter Tryz.func29, Tryz.ntmps29
 go_wp2_with fail
 refine (asked_any s _).mono ?_
 rintro e w1 ⟨hb, v, rfl, hsl, _⟩
 obtain ⟨hc, hf⟩ := bcell hb
 obtain ⟨er, m, hfv, her⟩ : ∃ er m, faultV (askErr s) = .agg #[.int .i64 er, .int .i64 m, .int .i64 m] ∧ er = askErr s := ⟨_, _, rfl, rfl⟩
 have HF : Hid (faultV (askErr s) = .agg #[.int .i64 er, .int .i64 m, .int .i64 m]) := hfv
 have q0 : (er != 0) = true := by rw [her]; simpa using he
 rw [hfv]
 clear hfv her he
 have HB : Hid (Below w.heap.size w w1) := ((Below.refl _ _).alloc (Nat.le_refl _) _).trans (hb.mono (by simp))
 have hz : w.heap.size < w1.heap.size := by have := hb.size; simp at this; omega
 have k0 := (hc w.heap.size 0 (by simp)).trans (show _ = some (.int .i64 0) by simp)
 have k1 := (hc w.heap.size 1 (by simp)).trans (show _ = some (.int .i64 0) by simp)
 have k2 := (hc w.heap.size 2 (by simp)).trans (show _ = some (.int .i64 0) by simp)
 have f0 := (hf w.heap.size 0 (by simp)).trans (show _ = false by simp)
 have f1 := (hf w.heap.size 1 (by simp)).trans (show _ = false by simp)
 have f2 := (hf w.heap.size 2 (by simp)).trans (show _ = false by simp)
 clear hsl hb hc hf
 go_wp2
 go_region
 go_wp2
 have e0 : ((((w1.setCell ⟨w.heap.size, 0, none⟩ (.int .i64 er)).setCell ⟨w.heap.size, 1, none⟩ (.int .i64 m)).setCell ⟨w.heap.size, 2, none⟩ (.int .i64 m)).alloc (.cells #[.int .i64 er, .int .i64 m, .int .i64 m] 47)).cell? ⟨w.heap.size, 0, none⟩ = (((w1.setCell ⟨w.heap.size, 0, none⟩ (.int .i64 er)).setCell ⟨w.heap.size, 1, none⟩ (.int .i64 m)).setCell ⟨w.heap.size, 2, none⟩ (.int .i64 m)).cell? ⟨w.heap.size, 0, none⟩ := World.cell?_alloc_lt _ _ ⟨w.heap.size, 0, none⟩ (by simp; omega)
 have e1 : ((((w1.setCell ⟨w.heap.size, 0, none⟩ (.int .i64 er)).setCell ⟨w.heap.size, 1, none⟩ (.int .i64 m)).setCell ⟨w.heap.size, 2, none⟩ (.int .i64 m)).alloc (.cells #[.int .i64 er, .int .i64 m, .int .i64 m] 47)).cell? ⟨w.heap.size, 1, none⟩ = (((w1.setCell ⟨w.heap.size, 0, none⟩ (.int .i64 er)).setCell ⟨w.heap.size, 1, none⟩ (.int .i64 m)).setCell ⟨w.heap.size, 2, none⟩ (.int .i64 m)).cell? ⟨w.heap.size, 1, none⟩ := World.cell?_alloc_lt _ _ ⟨w.heap.size, 1, none⟩ (by simp; omega)
 have e2 : ((((w1.setCell ⟨w.heap.size, 0, none⟩ (.int .i64 er)).setCell ⟨w.heap.size, 1, none⟩ (.int .i64 m)).setCell ⟨w.heap.size, 2, none⟩ (.int .i64 m)).alloc (.cells #[.int .i64 er, .int .i64 m, .int .i64 m] 47)).cell? ⟨w.heap.size, 2, none⟩ = (((w1.setCell ⟨w.heap.size, 0, none⟩ (.int .i64 er)).setCell ⟨w.heap.size, 1, none⟩ (.int .i64 m)).setCell ⟨w.heap.size, 2, none⟩ (.int .i64 m)).cell? ⟨w.heap.size, 2, none⟩ := World.cell?_alloc_lt _ _ ⟨w.heap.size, 2, none⟩ (by simp; omega)
 refine bodyPost_ret (v := .tuple #[.slice none 0 0, .agg #[.int .i64 er, .int .i64 m, .int .i64 m]]) (by simp [results, Tryz.results29, go_sem, e0, e1, e2, k0, k1, k2]) rfl ⟨by rw [HF.out], ?_⟩
 exact ((((HB.out.setCell (p := ⟨w.heap.size, 0, none⟩) (Nat.le_refl _) _).setCell (p := ⟨w.heap.size, 1, none⟩) (Nat.le_refl _) _).setCell (p := ⟨w.heap.size, 2, none⟩) (Nat.le_refl _) _).alloc (by simp; omega) _).drew
set_option maxRecDepth 100000 in
set_option maxHeartbeats 4000000 in
theorem refLine_ok (s : ByteArray) (d : Int) (w : World) (he : askErr s = 0) :
  Calls Tryz.prog 29 #[.string s, .int .i64 d] w fun e w' => Below w.heap.size w w' ∧ ∃ v, e = .returned (.tuple #[v, faultV (askErr s)]) ∧ w'.ownsRow w.heap.size 3 1 v (lineL s d).length (iv (lineL s d)) := by
 have hle := askRunes_le s
 obtain ⟨LV, hLV⟩ : ∃ LV, LV = lineL s d := ⟨_, rfl⟩
 rw [← hLV]
 have HLV : Hid (LV = levelsL (askRunes s) ((askRunes s).map cls) d) := by show _ = _; rw [hLV, lineL, if_pos he]
 clear hLV
 go_enter Tryz.func29, Tryz.ntmps29
 go_wp2_with fail
 refine (asked_any s _).mono ?_
 rintro e w1 ⟨hb, v, rfl, hsl, _⟩
 obtain ⟨hc, hf⟩ := bcell hb
 have hfv : faultV (askErr s) = .agg #[.int .i64 0, .int .i64 0, .int .i64 0] := by rw [he]; rfl
 have HF : Hid (faultV (askErr s) = .agg #[.int .i64 0, .int .i64 0, .int .i64 0]) := hfv
 rw [hfv]
 clear hfv he
 have hsl' : SlI (w1.alloc (.cells #[.int .i64 0, .int .i64 0, .int .i64 0] 47)) v (askRunes s) := hsl.below ((Below.refl _ _).alloc (Nat.le_refl _) _)
 have HC : Hid (∀ W, SlI W v (askRunes s) → w.heap.size + 1 ≤ W.heap.size →
   Calls Tryz.prog 48 #[v, .int .i64 d] W fun e w' => ∃ v', e = .returned v' ∧ w'.ownsRow (w.heap.size + 1) 3 1 v' LV.length (iv LV) ∧ Below W.heap.size W w') := fun W h hW =>
  (levels_any _ d v W (by omega) h).mono fun e w' ⟨g, c, he, ho, hb'⟩ => by
   rw [← HLV.out] at ho
   have hl : LV.length = (askRunes s).length := by have := ho.1; rw [iv_length] at this; omega
   exact ⟨_, he, by rw [hl]; exact own_base ho (by have := (ho.lt g rfl).1; omega), hb'⟩
 have HS : Hid (SlI (w1.alloc (.cells #[.int .i64 0, .int .i64 0, .int .i64 0] 47)) v (askRunes s)) := hsl'
 have HB : Hid (Below w.heap.size w w1) := ((Below.refl _ _).alloc (Nat.le_refl _) _).trans (hb.mono (by simp))
 have hz : w.heap.size < w1.heap.size := by have := hb.size; simp at this; omega
 clear hsl hsl' hb
 go_wp2_with fail
 go_region_with (go_at_call 48; refine (HC.out _ ?_ ?_).mono ?_; exact HS.out; (simp; omega); rintro e w2 ⟨v', rfl, hown2, hb3⟩; obtain ⟨hc2, hf2⟩ := bcell hb3)
 all_goals
  have hB3 : Below w.heap.size w (((w2.setCell ⟨w.heap.size, 0, none⟩ (.int .i64 0)).setCell ⟨w.heap.size, 1, none⟩ (.int .i64 0)).setCell ⟨w.heap.size, 2, none⟩ (.int .i64 0)) :=
   (((((HB.out.alloc HB.out.size _).drew).trans (hb3.mono (by simp; omega))).setCell (Nat.le_refl _) _).setCell (Nat.le_refl _) _).setCell (Nat.le_refl _) _
  have hS3 : (((w2.setCell ⟨w.heap.size, 0, none⟩ (.int .i64 0)).setCell ⟨w.heap.size, 1, none⟩ (.int .i64 0)).setCell ⟨w.heap.size, 2, none⟩ (.int .i64 0)).ownsRow w.heap.size 3 1 v' LV.length (iv LV) :=
   own_lower (ownsRow_setCell_below (ownsRow_setCell_below (ownsRow_setCell_below hown2 (by simp) _) (by simp) _) (by simp) _)
  have k0 : w2.cell? ⟨w.heap.size, 0, none⟩ = some (.int .i64 0) := (hc2 _ _ (by simp; omega)).trans ((World.cell?_alloc_lt _ _ ⟨w.heap.size, 0, none⟩ hz).trans ((hc _ _ (by simp)).trans (by simp)))
  have k1 : w2.cell? ⟨w.heap.size, 1, none⟩ = some (.int .i64 0) := (hc2 _ _ (by simp; omega)).trans ((World.cell?_alloc_lt _ _ ⟨w.heap.size, 1, none⟩ hz).trans ((hc _ _ (by simp)).trans (by simp)))
  have k2 : w2.cell? ⟨w.heap.size, 2, none⟩ = some (.int .i64 0) := (hc2 _ _ (by simp; omega)).trans ((World.cell?_alloc_lt _ _ ⟨w.heap.size, 2, none⟩ hz).trans ((hc _ _ (by simp)).trans (by simp)))
  clear hc2 hf2 hc hf
  go_wp2
  exact bodyPost_ret (v := .tuple #[v', .agg #[.int .i64 0, .int .i64 0, .int .i64 0]]) (by simp [results, Tryz.results29, go_sem, k0, k1, k2]) rfl ⟨hB3, v', by rw [HF.out], hS3⟩
theorem refLine_any (s : ByteArray) (d : Int) (w : World) :
  Calls Tryz.prog 29 #[.string s, .int .i64 d] w fun e w' => Below w.heap.size w w' ∧ ∃ v, e = .returned (.tuple #[v, faultV (askErr s)]) ∧ w'.ownsRow w.heap.size 3 1 v (lineL s d).length (iv (lineL s d)) := by
 by_cases he : askErr s = 0
 ·exact refLine_ok s d w he
 ·refine (refLine_err s d w he).mono ?_
  rintro e w' ⟨rfl, hb⟩
  refine ⟨hb, _, rfl, ?_⟩
  rw [lineL, if_neg he]
  exact ⟨rfl, .inl ⟨rfl, rfl⟩⟩
end Go.Proofs.YtkbinfhclaafhaaGreatDoor
namespace Go.Proofs.YtkbinfhclaafhaaGreatDoor
open Go.RowKit
structure OpD where
 k : Int
 a : Int
 s : ByteArray
 e : Value
def opV (o : OpD) : Value := .agg #[.int .i64 o.k, .int .i64 o.a, .string o.s, o.e]
def OpsAt (w : World) (b off : Nat) (ops : List OpD) : Prop := ∀ i (h : i < ops.length), w.cell? ⟨b, off + i * 4, none⟩ = some (.int .i64 ops[i].k) ∧ w.cell? ⟨b, off + i * 4 + 1, none⟩ = some (.int .i64 ops[i].a) ∧ w.cell? ⟨b, off + i * 4 + 2, none⟩ = some (.string ops[i].s) ∧ w.cell? ⟨b, off + i * 4 + 3, none⟩ = some ops[i].e ∧ ∃ ao n c, ops[i].e = .slice ao n c
theorem OpsAt.below {w w' : World} {b off : Nat} {ops : List OpD} (h : OpsAt w b off ops) (hb : Below w.heap.size w w') : OpsAt w' b off ops := fun i hi =>
 let ⟨h1, h2, h3, h4, h5⟩ := h i hi
 ⟨cell_keep hb h1, cell_keep hb h2, cell_keep hb h3, cell_keep hb h4, h5⟩
def PlaysTrue (w : World) (o : OpD) : Prop := ∀ W, Below w.heap.size w W → Calls Tryz.prog 18 #[opV o] W fun e W' => e = .returned (.bool true) ∧ Below W.heap.size W W'
set_option maxHeartbeats 2000000 in
theorem upTo_true (ops : List OpD) (b off cap n : Nat) (lo hi : Int) (w : World) (hl : ops.length = n) (hn : n ≤ 1000000000000000) (hc : OpsAt w b off ops)
  (hp : ∀ o ∈ ops, lo ≤ o.k → o.k ≤ hi → PlaysTrue w o) :
  Calls Tryz.prog 13 #[.slice (some ⟨b, off, none⟩) n cap, .int .i64 lo, .int .i64 hi] w fun e w' => e = .returned (.int .i64 (-1)) ∧ Below w.heap.size w w' := by
 have HC : Hid (OpsAt w b off ops) := hc
 have HL : Hid (ops.length = n) := hl
 have HP : Hid (∀ o ∈ ops, lo ≤ o.k → o.k ≤ hi → PlaysTrue w o) := hp
 clear hc hl hp
 go_enter Tryz.func13, Tryz.ntmps13
 go_wp2
 go_loopw [7] (fun i wr => ∃ k : Nat, k ≤ n ∧ i = .int .i64 k ∧ Below w.heap.size w wr) (fun i _ => n - (intOf i).toNat)
 case atStart => exact ⟨0, Nat.zero_le _, rfl, Below.refl _ _⟩
 case round =>
  obtain ⟨k, hk, rfl, hb⟩ := hrel
  have hbz := hb.size
  have hk60 : (k : Int) < 1152921504606846976 := by omega
  by_cases hlt : k < n
  ·have hlt' : (k : Int) < (n : Int) := by omega
   have hkl : k < ops.length := by rw [HL.out]; exact hlt
   obtain ⟨c0, c1, c2, c3, ao, m, cc, he⟩ := (HC.out.below hb) k hkl
   have HPk : Hid (lo ≤ ops[k].k → ops[k].k ≤ hi → PlaysTrue w ops[k]) := HP.out ops[k] (List.getElem_mem hkl)
   generalize ops[k] = o at *
   obtain ⟨ok, oa, os, oe⟩ := o
   simp only at c0 c1 c2 c3 he
   subst he
   have HPk' : Hid (lo ≤ ok → ok ≤ hi → PlaysTrue w ⟨ok, oa, os, .slice ao m cc⟩) := HPk
   clear HPk hkl
   by_cases h1 : lo ≤ ok
   ·by_cases h2 : ok ≤ hi
    ·have hb2 : Below w.heap.size w (wr.alloc (.cells #[.int .i64 ok, .int .i64 oa, .string os, .slice ao m cc] 29)) := hb.alloc hbz _
     have HPc : Hid (Calls Tryz.prog 18 #[opV ⟨ok, oa, os, .slice ao m cc⟩] (wr.alloc (.cells #[.int .i64 ok, .int .i64 oa, .string os, .slice ao m cc] 29)) fun e W' => e = .returned (.bool true) ∧ Below (wr.alloc (.cells #[.int .i64 ok, .int .i64 oa, .string os, .slice ao m cc] 29)).heap.size (wr.alloc (.cells #[.int .i64 ok, .int .i64 oa, .string os, .slice ao m cc] 29)) W') := HPk'.out h1 h2 _ hb2
     clear HPk' hb2
     go_wp2_with fail
     refine HPc.out.mono ?_
     rintro e w3 ⟨rfl, hb3⟩
     have hb4 : Below w.heap.size w w3 := (hb.alloc hbz _).trans (hb3.mono (by simp; omega))
     clear hb3 HPc c0 c1 c2 c3
     go_wp2
     go_roundw
     case rel => exact ⟨k + 1, by omega, by go_num, hb4⟩
     case measure => simp [intOf]; omega
    ·have h2' : decide (ok ≤ hi) = false := by simpa using h2
     clear HPk'
     go_wp2
     go_roundw
     case rel => exact ⟨k + 1, by omega, by go_num, hb.alloc hbz _⟩
     case measure => simp [intOf]; omega
   ·have h1' : decide (lo ≤ ok) = false := by simpa using h1
    clear HPk'
    go_wp2
    go_roundw
    case rel => exact ⟨k + 1, by omega, by go_num, hb.alloc hbz _⟩
    case measure => simp [intOf]; omega
  ·have hlt' : ¬ (k : Int) < (n : Int) := by omega
   go_wp2
   go_ret
   exact ⟨rfl, hb⟩
theorem upTo_zero (ao : Option Addr) (cap : Nat) (lo hi : Int) (w : World) :
  Calls Tryz.prog 13 #[.slice ao 0 cap, .int .i64 lo, .int .i64 hi] w fun e w' => e = .returned (.int .i64 (-1)) ∧ Below w.heap.size w w' := by
 go_enter Tryz.func13, Tryz.ntmps13
 go_wp2
 refine wp_loop_rounds 1 ?_
 rw [rounds_succ]
 go_wp2
 go_ret
 exact ⟨rfl, Below.refl _ _⟩
end Go.Proofs.YtkbinfhclaafhaaGreatDoor
namespace Go.Proofs.YtkbinfhclaafhaaGreatDoor
open Go.RowKit
def spansL : List (Int × Int × Int) := [(1488, 1514, 1), (8207, 8207, 1), (1575, 1610, 2), (1564, 1564, 2), (48, 57, 3), (43, 43, 4), (45, 45, 4), (35, 37, 5), (8364, 8364, 5), (1632, 1641, 6), (44, 44, 7), (46, 47, 7), (58, 58, 7), (768, 879, 8), (1611, 1618, 8), (173, 173, 9), (8203, 8203, 9), (9, 9, 10), (32, 32, 11), (8195, 8195, 11), (33, 34, 12), (38, 42, 12), (59, 64, 12), (91, 96, 12), (123, 126, 12), (9001, 9002, 12), (12296, 12297, 12), (8234, 8234, 13), (8235, 8235, 14), (8237, 8237, 15), (8238, 8238, 16), (8236, 8236, 17), (8294, 8294, 18), (8295, 8295, 19), (8296, 8296, 20), (8297, 8297, 21)]
def spansV : Array Value := #[.int .i32 1488, .int .i32 1514, .int .i64 1, .int .i32 8207, .int .i32 8207, .int .i64 1, .int .i32 1575, .int .i32 1610, .int .i64 2, .int .i32 1564, .int .i32 1564, .int .i64 2, .int .i32 48, .int .i32 57, .int .i64 3, .int .i32 43, .int .i32 43, .int .i64 4, .int .i32 45, .int .i32 45, .int .i64 4, .int .i32 35, .int .i32 37, .int .i64 5, .int .i32 8364, .int .i32 8364, .int .i64 5, .int .i32 1632, .int .i32 1641, .int .i64 6, .int .i32 44, .int .i32 44, .int .i64 7, .int .i32 46, .int .i32 47, .int .i64 7, .int .i32 58, .int .i32 58, .int .i64 7, .int .i32 768, .int .i32 879, .int .i64 8, .int .i32 1611, .int .i32 1618, .int .i64 8, .int .i32 173, .int .i32 173, .int .i64 9, .int .i32 8203, .int .i32 8203, .int .i64 9, .int .i32 9, .int .i32 9, .int .i64 10, .int .i32 32, .int .i32 32, .int .i64 11, .int .i32 8195, .int .i32 8195, .int .i64 11, .int .i32 33, .int .i32 34, .int .i64 12, .int .i32 38, .int .i32 42, .int .i64 12, .int .i32 59, .int .i32 64, .int .i64 12, .int .i32 91, .int .i32 96, .int .i64 12, .int .i32 123, .int .i32 126, .int .i64 12, .int .i32 9001, .int .i32 9002, .int .i64 12, .int .i32 12296, .int .i32 12297, .int .i64 12, .int .i32 8234, .int .i32 8234, .int .i64 13, .int .i32 8235, .int .i32 8235, .int .i64 14, .int .i32 8237, .int .i32 8237, .int .i64 15, .int .i32 8238, .int .i32 8238, .int .i64 16, .int .i32 8236, .int .i32 8236, .int .i64 17, .int .i32 8294, .int .i32 8294, .int .i64 18, .int .i32 8295, .int .i32 8295, .int .i64 19, .int .i32 8296, .int .i32 8296, .int .i64 20, .int .i32 8297, .int .i32 8297, .int .i64 21]
theorem idx_span : ∀ (k : Nat) (_hk : k < 36) (w : World), (Instr.index 176 (.agg spansV) (.int .i64 k)).run Tryz.prog w = .ok (.agg #[.int .i32 (spansL.getD k (0, 0, 0)).1, .int .i32 (spansL.getD k (0, 0, 0)).2.1, .int .i64 (spansL.getD k (0, 0, 0)).2.2]) w
 | 0, _, _ => by kernel_rfl
 | 1, _, _ => by kernel_rfl
 | 2, _, _ => by kernel_rfl
 | 3, _, _ => by kernel_rfl
 | 4, _, _ => by kernel_rfl
 | 5, _, _ => by kernel_rfl
 | 6, _, _ => by kernel_rfl
 | 7, _, _ => by kernel_rfl
 | 8, _, _ => by kernel_rfl
 | 9, _, _ => by kernel_rfl
 | 10, _, _ => by kernel_rfl
 | 11, _, _ => by kernel_rfl
 | 12, _, _ => by kernel_rfl
 | 13, _, _ => by kernel_rfl
 | 14, _, _ => by kernel_rfl
 | 15, _, _ => by kernel_rfl
 | 16, _, _ => by kernel_rfl
 | 17, _, _ => by kernel_rfl
 | 18, _, _ => by kernel_rfl
 | 19, _, _ => by kernel_rfl
 | 20, _, _ => by kernel_rfl
 | 21, _, _ => by kernel_rfl
 | 22, _, _ => by kernel_rfl
 | 23, _, _ => by kernel_rfl
 | 24, _, _ => by kernel_rfl
 | 25, _, _ => by kernel_rfl
 | 26, _, _ => by kernel_rfl
 | 27, _, _ => by kernel_rfl
 | 28, _, _ => by kernel_rfl
 | 29, _, _ => by kernel_rfl
 | 30, _, _ => by kernel_rfl
 | 31, _, _ => by kernel_rfl
 | 32, _, _ => by kernel_rfl
 | 33, _, _ => by kernel_rfl
 | 34, _, _ => by kernel_rfl
 | 35, _, _ => by kernel_rfl
 | n + 36, h, _ => absurd h (by omega)
theorem onSigns : bytesI { data := #[33, 34, 38, 39, 40, 41, 42, 59, 60, 61, 62, 63, 64, 91, 92, 93, 94, 95, 96, 123, 124, 125, 126] } = [33, 34, 38, 39, 40, 41, 42, 59, 60, 61, 62, 63, 64, 91, 92, 93, 94, 95, 96, 123, 124, 125, 126] := by decide
theorem cls_hit (r : Int) (k : Nat) (hk : k < 36) (h1 : (spansL.getD k (0, 0, 0)).1 ≤ r) (h2 : r ≤ (spansL.getD k (0, 0, 0)).2.1) : cls r = (spansL.getD k (0, 0, 0)).2.2 := by
 match k, hk, h1, h2 with
 | 0, _, h1, h2 =>
  have h1 : (1488 : Int) ≤ r := h1
  have h2 : r ≤ 1514 := h2
  show cls r = 1
  exact cls_0 (by omega)
 | 1, _, h1, h2 =>
  have h1 : (8207 : Int) ≤ r := h1
  have h2 : r ≤ 8207 := h2
  show cls r = 1
  exact cls_0 (by omega)
 | 2, _, h1, h2 =>
  have h1 : (1575 : Int) ≤ r := h1
  have h2 : r ≤ 1610 := h2
  show cls r = 2
  exact cls_1 (by omega)
 | 3, _, h1, h2 =>
  have h1 : (1564 : Int) ≤ r := h1
  have h2 : r ≤ 1564 := h2
  show cls r = 2
  exact cls_1 (by omega)
 | 4, _, h1, h2 =>
  have h1 : (48 : Int) ≤ r := h1
  have h2 : r ≤ 57 := h2
  show cls r = 3
  exact cls_2 (by omega)
 | 5, _, h1, h2 =>
  have h1 : (43 : Int) ≤ r := h1
  have h2 : r ≤ 43 := h2
  show cls r = 4
  exact cls_3 (by omega)
 | 6, _, h1, h2 =>
  have h1 : (45 : Int) ≤ r := h1
  have h2 : r ≤ 45 := h2
  show cls r = 4
  exact cls_3 (by omega)
 | 7, _, h1, h2 =>
  have h1 : (35 : Int) ≤ r := h1
  have h2 : r ≤ 37 := h2
  show cls r = 5
  have h : r = 35 ∨ r = 36 ∨ r = 37 := by omega
  rcases h with rfl | rfl | rfl <;> decide
 | 8, _, h1, h2 =>
  have h1 : (8364 : Int) ≤ r := h1
  have h2 : r ≤ 8364 := h2
  show cls r = 5
  have h : r = 8364 := by omega
  subst h; decide
 | 9, _, h1, h2 =>
  have h1 : (1632 : Int) ≤ r := h1
  have h2 : r ≤ 1641 := h2
  show cls r = 6
  exact cls_4 (by omega)
 | 10, _, h1, h2 =>
  have h1 : (44 : Int) ≤ r := h1
  have h2 : r ≤ 44 := h2
  show cls r = 7
  have h : r = 44 := by omega
  subst h; decide
 | 11, _, h1, h2 =>
  have h1 : (46 : Int) ≤ r := h1
  have h2 : r ≤ 47 := h2
  show cls r = 7
  have h : r = 46 ∨ r = 47 := by omega
  rcases h with rfl | rfl <;> decide
 | 12, _, h1, h2 =>
  have h1 : (58 : Int) ≤ r := h1
  have h2 : r ≤ 58 := h2
  show cls r = 7
  have h : r = 58 := by omega
  subst h; decide
 | 13, _, h1, h2 =>
  have h1 : (768 : Int) ≤ r := h1
  have h2 : r ≤ 879 := h2
  show cls r = 8
  exact cls_5 (by omega)
 | 14, _, h1, h2 =>
  have h1 : (1611 : Int) ≤ r := h1
  have h2 : r ≤ 1618 := h2
  show cls r = 8
  exact cls_5 (by omega)
 | 15, _, h1, h2 =>
  have h1 : (173 : Int) ≤ r := h1
  have h2 : r ≤ 173 := h2
  show cls r = 9
  exact cls_6 (by omega)
 | 16, _, h1, h2 =>
  have h1 : (8203 : Int) ≤ r := h1
  have h2 : r ≤ 8203 := h2
  show cls r = 9
  exact cls_6 (by omega)
 | 17, _, h1, h2 =>
  have h1 : (9 : Int) ≤ r := h1
  have h2 : r ≤ 9 := h2
  show cls r = 10
  exact cls_7 (by omega)
 | 18, _, h1, h2 =>
  have h1 : (32 : Int) ≤ r := h1
  have h2 : r ≤ 32 := h2
  show cls r = 11
  exact cls_8 (by omega)
 | 19, _, h1, h2 =>
  have h1 : (8195 : Int) ≤ r := h1
  have h2 : r ≤ 8195 := h2
  show cls r = 11
  exact cls_8 (by omega)
 | 20, _, h1, h2 =>
  have h1 : (33 : Int) ≤ r := h1
  have h2 : r ≤ 34 := h2
  show cls r = 12
  have h : r = 33 ∨ r = 34 := by omega
  rcases h with rfl | rfl <;> decide
 | 21, _, h1, h2 =>
  have h1 : (38 : Int) ≤ r := h1
  have h2 : r ≤ 42 := h2
  show cls r = 12
  have h : r = 38 ∨ r = 39 ∨ r = 40 ∨ r = 41 ∨ r = 42 := by omega
  rcases h with rfl | rfl | rfl | rfl | rfl <;> decide
 | 22, _, h1, h2 =>
  have h1 : (59 : Int) ≤ r := h1
  have h2 : r ≤ 64 := h2
  show cls r = 12
  have h : r = 59 ∨ r = 60 ∨ r = 61 ∨ r = 62 ∨ r = 63 ∨ r = 64 := by omega
  rcases h with rfl | rfl | rfl | rfl | rfl | rfl <;> decide
 | 23, _, h1, h2 =>
  have h1 : (91 : Int) ≤ r := h1
  have h2 : r ≤ 96 := h2
  show cls r = 12
  have h : r = 91 ∨ r = 92 ∨ r = 93 ∨ r = 94 ∨ r = 95 ∨ r = 96 := by omega
  rcases h with rfl | rfl | rfl | rfl | rfl | rfl <;> decide
 | 24, _, h1, h2 =>
  have h1 : (123 : Int) ≤ r := h1
  have h2 : r ≤ 126 := h2
  show cls r = 12
  have h : r = 123 ∨ r = 124 ∨ r = 125 ∨ r = 126 := by omega
  rcases h with rfl | rfl | rfl | rfl <;> decide
 | 25, _, h1, h2 =>
  have h1 : (9001 : Int) ≤ r := h1
  have h2 : r ≤ 9002 := h2
  show cls r = 12
  have h : r = 9001 ∨ r = 9002 := by omega
  rcases h with rfl | rfl <;> decide
 | 26, _, h1, h2 =>
  have h1 : (12296 : Int) ≤ r := h1
  have h2 : r ≤ 12297 := h2
  show cls r = 12
  have h : r = 12296 ∨ r = 12297 := by omega
  rcases h with rfl | rfl <;> decide
 | 27, _, h1, h2 =>
  have h1 : (8234 : Int) ≤ r := h1
  have h2 : r ≤ 8234 := h2
  show cls r = 13
  have h : r = 8234 := by omega
  subst h; decide
 | 28, _, h1, h2 =>
  have h1 : (8235 : Int) ≤ r := h1
  have h2 : r ≤ 8235 := h2
  show cls r = 14
  have h : r = 8235 := by omega
  subst h; decide
 | 29, _, h1, h2 =>
  have h1 : (8237 : Int) ≤ r := h1
  have h2 : r ≤ 8237 := h2
  show cls r = 15
  have h : r = 8237 := by omega
  subst h; decide
 | 30, _, h1, h2 =>
  have h1 : (8238 : Int) ≤ r := h1
  have h2 : r ≤ 8238 := h2
  show cls r = 16
  have h : r = 8238 := by omega
  subst h; decide
 | 31, _, h1, h2 =>
  have h1 : (8236 : Int) ≤ r := h1
  have h2 : r ≤ 8236 := h2
  show cls r = 17
  have h : r = 8236 := by omega
  subst h; decide
 | 32, _, h1, h2 =>
  have h1 : (8294 : Int) ≤ r := h1
  have h2 : r ≤ 8294 := h2
  show cls r = 18
  exact (cls_9 (by omega)).trans (by omega)
 | 33, _, h1, h2 =>
  have h1 : (8295 : Int) ≤ r := h1
  have h2 : r ≤ 8295 := h2
  show cls r = 19
  exact (cls_9 (by omega)).trans (by omega)
 | 34, _, h1, h2 =>
  have h1 : (8296 : Int) ≤ r := h1
  have h2 : r ≤ 8296 := h2
  show cls r = 20
  exact (cls_9 (by omega)).trans (by omega)
 | 35, _, h1, h2 =>
  have h1 : (8297 : Int) ≤ r := h1
  have h2 : r ≤ 8297 := h2
  show cls r = 21
  exact (cls_9 (by omega)).trans (by omega)
 | n + 36, h, _, _ => exact absurd h (by omega)
theorem among_no {r : Int} {l : List Int} (h : ∀ x ∈ l, r ≠ x) : amongB r l = false := by
 unfold amongB
 rw [List.contains_eq_mem, decide_eq_false_iff_not]
 exact fun hm => h r hm rfl
theorem cls_miss (r : Int) (h : ∀ k, k < 36 → ¬ ((spansL.getD k (0, 0, 0)).1 ≤ r ∧ r ≤ (spansL.getD k (0, 0, 0)).2.1)) : cls r = 0 := by
 have g0 : ¬ ((1488 : Int) ≤ r ∧ r ≤ 1514) := h 0 (by decide)
 have g1 : ¬ ((8207 : Int) ≤ r ∧ r ≤ 8207) := h 1 (by decide)
 have g2 : ¬ ((1575 : Int) ≤ r ∧ r ≤ 1610) := h 2 (by decide)
 have g3 : ¬ ((1564 : Int) ≤ r ∧ r ≤ 1564) := h 3 (by decide)
 have g4 : ¬ ((48 : Int) ≤ r ∧ r ≤ 57) := h 4 (by decide)
 have g5 : ¬ ((43 : Int) ≤ r ∧ r ≤ 43) := h 5 (by decide)
 have g6 : ¬ ((45 : Int) ≤ r ∧ r ≤ 45) := h 6 (by decide)
 have g7 : ¬ ((35 : Int) ≤ r ∧ r ≤ 37) := h 7 (by decide)
 have g8 : ¬ ((8364 : Int) ≤ r ∧ r ≤ 8364) := h 8 (by decide)
 have g9 : ¬ ((1632 : Int) ≤ r ∧ r ≤ 1641) := h 9 (by decide)
 have g10 : ¬ ((44 : Int) ≤ r ∧ r ≤ 44) := h 10 (by decide)
 have g11 : ¬ ((46 : Int) ≤ r ∧ r ≤ 47) := h 11 (by decide)
 have g12 : ¬ ((58 : Int) ≤ r ∧ r ≤ 58) := h 12 (by decide)
 have g13 : ¬ ((768 : Int) ≤ r ∧ r ≤ 879) := h 13 (by decide)
 have g14 : ¬ ((1611 : Int) ≤ r ∧ r ≤ 1618) := h 14 (by decide)
 have g15 : ¬ ((173 : Int) ≤ r ∧ r ≤ 173) := h 15 (by decide)
 have g16 : ¬ ((8203 : Int) ≤ r ∧ r ≤ 8203) := h 16 (by decide)
 have g17 : ¬ ((9 : Int) ≤ r ∧ r ≤ 9) := h 17 (by decide)
 have g18 : ¬ ((32 : Int) ≤ r ∧ r ≤ 32) := h 18 (by decide)
 have g19 : ¬ ((8195 : Int) ≤ r ∧ r ≤ 8195) := h 19 (by decide)
 have g20 : ¬ ((33 : Int) ≤ r ∧ r ≤ 34) := h 20 (by decide)
 have g21 : ¬ ((38 : Int) ≤ r ∧ r ≤ 42) := h 21 (by decide)
 have g22 : ¬ ((59 : Int) ≤ r ∧ r ≤ 64) := h 22 (by decide)
 have g23 : ¬ ((91 : Int) ≤ r ∧ r ≤ 96) := h 23 (by decide)
 have g24 : ¬ ((123 : Int) ≤ r ∧ r ≤ 126) := h 24 (by decide)
 have g25 : ¬ ((9001 : Int) ≤ r ∧ r ≤ 9002) := h 25 (by decide)
 have g26 : ¬ ((12296 : Int) ≤ r ∧ r ≤ 12297) := h 26 (by decide)
 have g27 : ¬ ((8234 : Int) ≤ r ∧ r ≤ 8234) := h 27 (by decide)
 have g28 : ¬ ((8235 : Int) ≤ r ∧ r ≤ 8235) := h 28 (by decide)
 have g29 : ¬ ((8237 : Int) ≤ r ∧ r ≤ 8237) := h 29 (by decide)
 have g30 : ¬ ((8238 : Int) ≤ r ∧ r ≤ 8238) := h 30 (by decide)
 have g31 : ¬ ((8236 : Int) ≤ r ∧ r ≤ 8236) := h 31 (by decide)
 have g32 : ¬ ((8294 : Int) ≤ r ∧ r ≤ 8294) := h 32 (by decide)
 have g33 : ¬ ((8295 : Int) ≤ r ∧ r ≤ 8295) := h 33 (by decide)
 have g34 : ¬ ((8296 : Int) ≤ r ∧ r ≤ 8296) := h 34 (by decide)
 have g35 : ¬ ((8297 : Int) ≤ r ∧ r ≤ 8297) := h 35 (by decide)
 clear h
 have hB : Between r := by unfold Between; omega
 rw [cls_between hB, onSigns]
 have a1 : amongB r [35, 36, 37, 8364] = false := among_no (by simp only [List.mem_cons, List.not_mem_nil, or_false, forall_eq_or_imp, forall_eq]; omega)
 have a2 : amongB r [44, 46, 47, 58] = false := among_no (by simp only [List.mem_cons, List.not_mem_nil, or_false, forall_eq_or_imp, forall_eq]; omega)
 have a3 : amongB r [33, 34, 38, 39, 40, 41, 42, 59, 60, 61, 62, 63, 64, 91, 92, 93, 94, 95, 96, 123, 124, 125, 126] = false := among_no (by simp only [List.mem_cons, List.not_mem_nil, or_false, forall_eq_or_imp, forall_eq]; omega)
 have a4 : amongB r [9001, 9002, 12296, 12297] = false := among_no (by simp only [List.mem_cons, List.not_mem_nil, or_false, forall_eq_or_imp, forall_eq]; omega)
 rw [a1, a2, a3, a4, if_neg (by decide), if_neg (by decide), if_neg (by decide), if_neg (by omega), if_neg (by omega), if_neg (by omega), if_neg (by omega), if_neg (by omega)]
end Go.Proofs.YtkbinfhclaafhaaGreatDoor
namespace Go.Proofs.YtkbinfhclaafhaaGreatDoor
open Go.RowKit
structure Env (w : World) (aL aT aC : Addr) : Prop where
 long : w.cell? ⟨0, 0, none⟩ = some (.iface 354 (.pointer (some aL)))
 text : w.cell? ⟨1, 0, none⟩ = some (.iface 354 (.pointer (some aT)))
 code : w.cell? ⟨2, 0, none⟩ = some (.iface 354 (.pointer (some aC)))
 etype : w.cell? ⟨3, 0, none⟩ = some (.iface 223 (.agg #[.pointer (some ⟨16, 53, none⟩)]))
 tabs : Lib.Utf8Tabs (Tryz.lays196_ren.g 3) (Tryz.lays196_ren.g 4) w
 spans : ∃ t fr, w.heap[4]? = some (.cells spansV t fr)
 neLT : aL ≠ aT
 neTC : aT ≠ aC
 neLC : aL ≠ aC
 blkL : ∃ c t, w.heap[aL.block]? = some (.cells c t (0, 0))
 blkT : ∃ c t, w.heap[aT.block]? = some (.cells c t (0, 0))
 blkC : ∃ c t, w.heap[aC.block]? = some (.cells c t (0, 0))
theorem Env.below {w w' : World} {aL aT aC : Addr} (h : Env w aL aT aC) (hb : Below w.heap.size w w') : Env w' aL aT aC where
 long := cell_keep hb h.long
 text := cell_keep hb h.text
 code := cell_keep hb h.code
 etype := cell_keep hb h.etype
 tabs := Utf8Tabs_below h.tabs hb
 spans := by obtain ⟨t, fr, h⟩ := h.spans; exact ⟨t, fr, heap_keep hb h⟩
 neLT := h.neLT
 neTC := h.neTC
 neLC := h.neLC
 blkL := by obtain ⟨c, t, h⟩ := h.blkL; exact ⟨c, t, heap_keep hb h⟩
 blkT := by obtain ⟨c, t, h⟩ := h.blkT; exact ⟨c, t, heap_keep hb h⟩
 blkC := by obtain ⟨c, t, h⟩ := h.blkC; exact ⟨c, t, heap_keep hb h⟩
theorem Tryz.sizeSpans : (Tryz.prog.info? 176).map (·.size) = some spansV.size := by kernel_rfl
set_option maxRecDepth 100000 in
set_option maxHeartbeats 2000000 in
theorem classOf_any (r : Int) (w : World) (t : TypeId) (fr : Nat × Nat) (hsp : w.heap[4]? = some (.cells spansV t fr)) :
  Calls Tryz.prog 66 #[.int .i32 r] w fun e w' => e = .returned (.int .i64 (cls r)) ∧ Below w.heap.size w w' := by
 have hnd : ∀ (k : Nat) (_ : k < 36) (wx : World), (Instr.index 176 (.agg spansV) (.int .i64 k)).run Tryz.prog wx = .ok (.agg #[.int .i32 (spansL.getD k (0, 0, 0)).1, .int .i32 (spansL.getD k (0, 0, 0)).2.1, .int .i64 (spansL.getD k (0, 0, 0)).2.2]) wx := idx_span
 have HI : Hid (∀ (k : Nat) (_ : k < 36) (wx : World), (Instr.index 176 (.agg spansV) (.int .i64 k)).run Tryz.prog wx = .ok (.agg #[.int .i32 (spansL.getD k (0, 0, 0)).1, .int .i32 (spansL.getD k (0, 0, 0)).2.1, .int .i64 (spansL.getD k (0, 0, 0)).2.2]) wx) := hnd
 have HH : Hid (w.heap[4]? = some (.cells spansV t fr)) := hsp
 have HZ := Tryz.sizeSpans
 clear hnd hsp
 generalize spansV = sv at HI HH HZ
 go_enter Tryz.func66, Tryz.ntmps66
 go_wp2_with (refine wpList_load_row rfl 176 _ rfl 4 rfl t _ fr _ HH.out Tryz.underlying176 rfl HZ ?_)
 go_loopw [6] (fun i wr => ∃ k : Nat, k ≤ 36 ∧ i = .int .i64 k ∧ (∀ j, j < k → ¬ ((spansL.getD j (0, 0, 0)).1 ≤ r ∧ r ≤ (spansL.getD j (0, 0, 0)).2.1)) ∧ Below w.heap.size w wr) (fun i _ => 36 - (intOf i).toNat)
 case atStart => exact ⟨0, Nat.zero_le _, rfl, fun j h => absurd h (by omega), Below.refl _ _⟩
 case round =>
  obtain ⟨k, hk, rfl, hno, hb⟩ := hrel
  have HN : Hid (∀ j, j < k → ¬ ((spansL.getD j (0, 0, 0)).1 ≤ r ∧ r ≤ (spansL.getD j (0, 0, 0)).2.1)) := hno
  have hbz := hb.size
  clear hno
  by_cases hlt : k < 36
  ·have hlt' : (k : Int) < 36 := by omega
   have hix := fun wx => HI.out k hlt wx
   have HC : Hid _ := cls_hit r k hlt
   obtain ⟨a, b, c, habc⟩ : ∃ a b c, spansL.getD k (0, 0, 0) = (a, b, c) := ⟨_, _, _, rfl⟩
   simp only [habc] at hix
   have HA : Hid (spansL.getD k (0, 0, 0) = (a, b, c)) := habc
   clear habc
   by_cases h1 : a ≤ r
   ·by_cases h2 : r ≤ b
    ·go_wp2
     go_ret
     refine ⟨ret_int ?_, hb.alloc hbz _⟩
     have := HC.out
     rw [HA.out] at this
     exact (this h1 h2).symm
    ·have h2' : decide (r ≤ b) = false := by simpa using h2
     go_wp2
     go_roundw
     case rel =>
      refine ⟨k + 1, by omega, by go_num, fun j hj => ?_, hb.alloc hbz _⟩
      by_cases hjk : j < k
      ·exact HN.out j hjk
      ·obtain rfl : j = k := by omega
       rw [HA.out]; show ¬ (a ≤ r ∧ r ≤ b); omega
     case measure => simp [intOf]; omega
   ·have h1' : decide (a ≤ r) = false := by simpa using h1
    go_wp2
    go_roundw
    case rel =>
     refine ⟨k + 1, by omega, by go_num, fun j hj => ?_, hb.alloc hbz _⟩
     by_cases hjk : j < k
     ·exact HN.out j hjk
     ·obtain rfl : j = k := by omega
      rw [HA.out]; show ¬ (a ≤ r ∧ r ≤ b); omega
    case measure => simp [intOf]; omega
  ·go_wp2
   go_ret
   exact ⟨ret_int (cls_miss r fun j hj => HN.out j (by omega)).symm, hb⟩
def errV (e : Int) (aL aT aC : Addr) : Value := if e = 0 then .nilIface else if e = 1 then .iface 354 (.pointer (some aL)) else if e = 2 then .iface 354 (.pointer (some aT)) else .iface 354 (.pointer (some aC))
theorem valid_call (s : ByteArray) (w : World) (hs : s.size ≤ 9223372036854775807) (hT : Lib.Utf8Tabs (Tryz.lays196_ren.g 3) (Tryz.lays196_ren.g 4) w) :
  Calls Tryz.prog 81 #[.string s] w fun e w' => e = .returned (.bool (runesOf s).isSome) ∧ Below w.heap.size w w' := by
 have := Any.utf8_ValidString Tryz.lays196 s w hs hT
 rw [valid_eq] at this
 exact this
theorem contains_call (s : ByteArray) (w : World) :
  Calls Tryz.prog 82 #[.string s, .string ⟨#[10]⟩] w fun e w' => e = .returned (.bool (s.data.toList.contains 10)) ∧ w' = w := by
 have := Any.strings_Contains_one Tryz.lays144 s 10 w
 rw [← Lib.contains_iff_indexByte] at this
 exact this
theorem count_call (s : ByteArray) (w : World) (hs : s.size < 9223372036854775807) :
  Calls Tryz.prog 83 #[.string s] w fun e w' => e = .returned (.int .i64 (Lib.runeCount s)) ∧ Below w.heap.size w w' :=
 (Any.utf8_RuneCountInString Tryz.lays195 s w hs).mono fun e w' ⟨he, pos, hw⟩ => ⟨he, by subst hw; exact (Below.refl _ _).alloc (Nat.le_refl _) _⟩
set_option maxHeartbeats 2000000 in
theorem check_any (s : ByteArray) (w : World) (aL aT aC : Addr) (hs : s.size ≤ 9223372036854775807) (hE : Env w aL aT aC) :
  Calls Tryz.prog 54 #[.string s] w fun e w' => e = .returned (errV (askErr s) aL aT aC) ∧ Below w.heap.size w w' := by
 by_cases h6 : 600 < s.size
 ·have he : errV (askErr s) aL aT aC = .iface 354 (.pointer (some aL)) := by rw [ask_long h6]; rfl
  rw [he]
  have hc := hE.long
  have h6' : (600 : Int) < (s.size : Int) := by omega
  clear he
  go_enter Tryz.func54, Tryz.ntmps54
  go_wp2
  go_ret
  exact ⟨rfl, Below.refl _ _⟩
 have h6' : (s.size : Int) ≤ 600 := by omega
 have hv := valid_call s w hs hE.tabs
 cases hr : runesOf s with
 | none =>
  have he : errV (askErr s) aL aT aC = .iface 354 (.pointer (some aT)) := by rw [ask_none h6 hr]; rfl
  rw [he]
  have HV : Hid (Calls Tryz.prog 81 #[.string s] w fun e w' => e = .returned (.bool false) ∧ Below w.heap.size w w') := by rw [hr] at hv; exact hv
  have HE : Hid (Env w aL aT aC) := hE
  clear he hr hv hE
  go_enter Tryz.func54, Tryz.ntmps54
  go_wp2_with fail
  refine HV.out.mono ?_
  rintro e w1 ⟨rfl, hb⟩
  have hc := (HE.out.below hb).text
  go_wp2
  go_ret
  exact ⟨rfl, hb⟩
 | some l =>
  have HV : Hid (Calls Tryz.prog 81 #[.string s] w fun e w' => e = .returned (.bool true) ∧ Below w.heap.size w w') := by rw [hr] at hv; exact hv
  have HE : Hid (Env w aL aT aC) := hE
  have HF : Hid (s.data.toList.contains 10 = amongB 10 l) := feed_eq hr
  have HR : Hid (runesOf s = some l) := hr
  clear hr hv hE
  by_cases ha : amongB 10 l = true
  ·have he : errV (askErr s) aL aT aC = .iface 354 (.pointer (some aT)) := by rw [ask_feed h6 HR.out ha]; rfl
   rw [he]
   rw [ha] at HF
   clear he ha
   go_enter Tryz.func54, Tryz.ntmps54
   go_wp2_with fail
   refine HV.out.mono ?_
   rintro e w1 ⟨rfl, hb⟩
   have hc := (HE.out.below hb).text
   go_wp2_with fail
   refine (contains_call s w1).mono ?_
   rintro e w2 ⟨rfl, rfl⟩
   rw [HF.out]
   go_wp2
   go_ret
   exact ⟨rfl, hb⟩
  ·have HA : Hid (¬ amongB 10 l = true) := ha
   have ha : amongB 10 l = false := by simpa using ha
   rw [ha] at HF
   have HK : Hid (Lib.runeCount s = l.length) := runeCount_eq HR.out
   by_cases h3 : 300 < l.length
   ·have he : errV (askErr s) aL aT aC = .iface 354 (.pointer (some aL)) := by rw [ask_many h6 HR.out HA.out h3]; rfl
    rw [he]
    have h3' : (300 : Int) < (l.length : Int) := by omega
    clear he ha
    go_enter Tryz.func54, Tryz.ntmps54
    go_wp2_with fail
    refine HV.out.mono ?_
    rintro e w1 ⟨rfl, hb⟩
    go_wp2_with fail
    refine (contains_call s w1).mono ?_
    rintro e w2 ⟨rfl, rfl⟩
    rw [HF.out]
    go_wp2_with fail
    refine (count_call s _ (by omega)).mono ?_
    rintro e w3 ⟨rfl, hb2⟩
    rw [HK.out]
    have hb3 : Below w.heap.size w w3 := hb.trans (hb2.mono hb.size)
    have hc := (HE.out.below hb3).long
    go_wp2
    go_ret
    exact ⟨rfl, hb3⟩
   ·have he : errV (askErr s) aL aT aC = .nilIface := by rw [ask_ok h6 HR.out HA.out h3]; rfl
    rw [he]
    have h3' : ¬ (300 : Int) < (l.length : Int) := by omega
    clear he ha
    go_enter Tryz.func54, Tryz.ntmps54
    go_wp2_with fail
    refine HV.out.mono ?_
    rintro e w1 ⟨rfl, hb⟩
    go_wp2_with fail
    refine (contains_call s w1).mono ?_
    rintro e w2 ⟨rfl, rfl⟩
    rw [HF.out]
    go_wp2_with fail
    refine (count_call s _ (by omega)).mono ?_
    rintro e w3 ⟨rfl, hb2⟩
    rw [HK.out]
    have hb3 : Below w.heap.size w w3 := hb.trans (hb2.mono hb.size)
    go_wp2
    go_ret
    exact ⟨rfl, hb3⟩
end Go.Proofs.YtkbinfhclaafhaaGreatDoor
