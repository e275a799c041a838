import Derived.Test.YtkbinfhclaafhaaGreatDoorM13
import Derived.Test.YtkbinfhclaafhaaGreatDoorM14
import Derived.Test.YtkbinfhclaafhaaGreatDoorM16
import Derived.Deep.RegionHeld3
import Derived.Deep.DrawnRows
namespace Go.Proofs.YtkbinfhclaafhaaGreatDoor
open Go.RowKit
attribute [local go_sem ↓] Go.wp_at_zero Go.wp_at_succ
theorem alloc1_grown (w : World) (a : Obj) (r : Option Nat) : w.grownBy (w.alloc a).drew r := ⟨rfl, rfl, rfl, by simp, fun k hk _ => Below.heap_alloc w a k hk⟩
theorem news1 (w : World) (y : Value) (e : TypeId) : ∀ j u, [y][j]? = some u → (w.alloc (.cells #[y] e)).drew.cell? ((⟨w.heap.size, 0, none⟩ : Addr).add j) = some u := by
 intro j u hj
 match j, hj with
 | 0, hj => simp at hj; subst hj; simp [Addr.add]
theorem gathN_take_succ (l : List Int) (at' : List Nat) (j : Nat) (hj : j < at'.length) : gath l (at'.take (j + 1)) = gath l (at'.take j) ++ [l.getD (at'.getD j 0) 0] := by
 rw [gath, List.take_add_one, List.getElem?_eq_getElem hj, List.map_append, List.getD_eq_getElem?_getD (l := at'), List.getElem?_eq_getElem hj]; rfl
theorem befF_low {lv : List Int} {lf : List Bool} {para : Int} (h : ∀ p, 0 ≤ lv.getD p 0) (hp : 0 ≤ para) : ∀ k, 0 ≤ befF lv lf para k
 | 0 => hp
 | k + 1 => by rw [befF]; split; exact h _; exact befF_low h hp k
theorem behF_low {lv : List Int} {lf : List Bool} {para : Int} {len : Nat} (h : ∀ p, 0 ≤ lv.getD p 0) (hp : 0 ≤ para) : ∀ k, 0 ≤ behF lv lf para len k
 | 0 => hp
 | k + 1 => by rw [behF]; split; exact h _; exact behF_low h hp k
theorem behS_low {cs lv : List Int} {lf : List Bool} {para : Int} {last : Nat} (h : ∀ p, 0 ≤ lv.getD p 0) (hp : 0 ≤ para) : 0 ≤ behS cs lv lf para last := by
 unfold behS; split; exact hp; exact behF_low h hp _
theorem sideS_mod {a b m : Int} (hm : (if a < b then b else a) = m) (_h0 : 0 ≤ m) : sideS a b = m % 2 := by
 unfold sideS; rw [hm]; split <;> omega
def SB (W : World) (sb : Nat) (a0 a1 a2 a3 a4 a5 a6 : Value) : Prop := W.heap[sb]? = some (.cells #[a0, a1, a2, a3, a4, a5, a6] 220 (0, 0))
section
variable {W W' : World} {sb : Nat} {a0 a1 a2 a3 a4 a5 a6 : Value}
theorem SB.c2 (h : SB W sb a0 a1 a2 a3 a4 a5 a6) : W.cell? ⟨sb, 2, none⟩ = some a2 := heap_cell h 2
theorem SB.c3 (h : SB W sb a0 a1 a2 a3 a4 a5 a6) : W.cell? ⟨sb, 3, none⟩ = some a3 ∧ W.frozen? ⟨sb, 3, none⟩ = false := ⟨heap_cell h 3, heap_free h 3⟩
theorem SB.c4 (h : SB W sb a0 a1 a2 a3 a4 a5 a6) : W.cell? ⟨sb, 4, none⟩ = some a4 := heap_cell h 4
theorem SB.c5 (h : SB W sb a0 a1 a2 a3 a4 a5 a6) : W.cell? ⟨sb, 5, none⟩ = some a5 ∧ W.frozen? ⟨sb, 5, none⟩ = false := ⟨heap_cell h 5, heap_free h 5⟩
theorem SB.c6 (h : SB W sb a0 a1 a2 a3 a4 a5 a6) : W.cell? ⟨sb, 6, none⟩ = some a6 ∧ W.frozen? ⟨sb, 6, none⟩ = false := ⟨heap_cell h 6, heap_free h 6⟩
theorem SB.grown {r : Option Nat} (h : SB W sb a0 a1 a2 a3 a4 a5 a6) (hg : W.grownBy W' r) (hne : some sb ≠ r) : SB W' sb a0 a1 a2 a3 a4 a5 a6 := (hg.block sb (heap_lt h) hne).trans h
theorem SB.s3 (h : SB W sb a0 a1 a2 a3 a4 a5 a6) (v : Value) : SB (W.setCell ⟨sb, 3, none⟩ v) sb a0 a1 a2 v a4 a5 a6 := by unfold SB; rw [Joins.block_setCell h]; rfl
theorem SB.s5 (h : SB W sb a0 a1 a2 a3 a4 a5 a6) (v : Value) : SB (W.setCell ⟨sb, 5, none⟩ v) sb a0 a1 a2 a3 a4 v a6 := by unfold SB; rw [Joins.block_setCell h]; rfl
theorem SB.s6 (h : SB W sb a0 a1 a2 a3 a4 a5 a6) (v : Value) : SB (W.setCell ⟨sb, 6, none⟩ v) sb a0 a1 a2 a3 a4 a5 v := by unfold SB; rw [Joins.block_setCell h]; rfl
end
set_option maxRecDepth 100000 in
set_option maxHeartbeats 32000000 in
theorem newSeq_row (w : World) (L : LP) (ks ls : List Int) (h : LX w L ks ls) (hn : L.n ≤ 1000) (gp op m cp : Nat) (at' : List Nat) (hP : IntsAt w gp op (nl at')) (hl : at'.length = m) (hm : 0 < m) (hm1 : m ≤ 1000) (hat : ∀ p ∈ at', p < L.n) (hlv : ∀ p, 0 ≤ ls.getD p 0 ∧ ls.getD p 0 ≤ 1000) (hp : 0 ≤ L.p ∧ L.p ≤ 1000) :
  Calls Tryz.prog 158 #[.pointer (some ⟨L.lb, 0, none⟩), .slice (some ⟨gp, op, none⟩) m cp] w fun e w' => ∃ sb gr cr gc cc gb, e = .returned (.pointer (some ⟨sb, 0, none⟩)) ∧
   SqC w' w.heap.size sb gc m cc (.slice (some ⟨gp, op, none⟩) m cp) (.slice (some ⟨gr, 0, none⟩) m cr) (.slice (some ⟨gb, 0, none⟩) m m) (ls.getD (at'.headD 0) 0) (sideS (ls.getD (at'.headD 0) 0) (befF ls (xLeft L.cs) L.p (at'.headD 0))) (sideS (ls.getD (at'.headD 0) 0) (behS L.cs ls (xLeft L.cs) L.p (at'.getLastD 0))) (gath ks at') ∧
   w'.ownsRow w.heap.size 21 1 (.slice (some ⟨gr, 0, none⟩) m cr) m (rv32 (gath L.rs at')) ∧ RowAt w' w.heap.size 108 gb m (iv (gath ks at')) ∧ gb ≠ gc ∧ w.heap.size ≤ sb ∧ sb < w'.heap.size ∧ Below w.heap.size w w' := by
 obtain ⟨i32, hi32, hz0, hz1, hz2⟩ := info_parts Tryz.infoI32
 obtain ⟨iC, hiC, hc0, hc1, hc2⟩ := info_parts Tryz.infoCls
 have h0 : at'.getD 0 0 = at'.headD 0 := by cases at' <;> rfl
 have hp0 : at'.headD 0 < L.n := by rw [← h0]; exact hat _ (getD_mem (by omega))
 have cp0 : w.cell? ⟨gp, op, none⟩ = some (.int .i64 ((at'.headD 0 : Nat) : Int)) := by
  have := hP 0 (by rw [nl_length]; omega)
  rw [nl_getD _ _ (by omega), h0] at this
  simpa using this
 have a3 := h.f3
 have al := h.cl _ hp0
 have hp0' : ((at'.headD 0 : Nat) : Int) < (L.n : Int) := by omega
 have hm0 : (0 : Int) < (m : Int) := by omega
 have HX : Hid (∀ W, Below w.heap.size w W → LX W L ks ls) := fun W hb => h.below hb
 have HP : Hid (∀ W, Below w.heap.size w W → ∀ j, j < m → W.cell? ⟨gp, op + j, none⟩ = some (.int .i64 ((at'.getD j 0 : Nat) : Int)) ∧ at'.getD j 0 < L.n) := fun W hb j hj => by
  have h1 := (hP.below hb) j (by rw [nl_length]; omega)
  rw [nl_getD _ _ (by omega)] at h1
  exact ⟨h1, hat _ (getD_mem (by omega))⟩
 have HL : Hid (at'.length = m) := hl
 clear h hP h0 hl
 obtain ⟨lev, hlev⟩ : ∃ lev, lev = ls.getD (at'.headD 0) 0 := ⟨_, rfl⟩
 rw [← hlev] at al ⊢
 obtain ⟨p0, hp0e⟩ : ∃ p0, p0 = at'.headD 0 := ⟨_, rfl⟩
 rw [← hp0e] at al cp0 hp0' hp0 ⊢
 have HE0 : Hid (lev = ls.getD p0 0 ∧ p0 = at'.headD 0) := ⟨by rw [hp0e]; exact hlev, hp0e⟩
 clear hlev hp0e
 go_enter Tryz.func158, Tryz.ntmps158
 go_wp2
 go_region
 have hb1 : Below w.heap.size w (w.alloc (.cells #[.slice (some ⟨gp, op, none⟩) m cp, .slice none 0 0, .slice none 0 0, .slice none 0 0, .int .i64 lev, .int .i64 0, .int .i64 0] 220)).drew := ((Below.refl _ _).alloc (Nat.le_refl _) _).drew
 have HN1 : Hid (NS (w.alloc (.cells #[.slice (some ⟨gp, op, none⟩) m cp, .slice none 0 0, .slice none 0 0, .slice none 0 0, .int .i64 lev, .int .i64 0, .int .i64 0] 220)).drew w.heap.size w.heap.size (.slice (some ⟨gp, op, none⟩) m cp) (.slice none 0 0) (.slice none 0 0) lev (gath L.rs (at'.take 0)) (gath ks (at'.take 0))) :=
  ⟨Array.getElem?_push_size, World.ownsRow_nil _ _ _ _, World.ownsRow_nil _ _ _ _, Nat.le_refl _⟩
 have HB1 : Hid _ := hb1
 clear hb1 a3 al cp0
 generalize (w.alloc (.cells #[.slice (some ⟨gp, op, none⟩) m cp, .slice none 0 0, .slice none 0 0, .slice none 0 0, .int .i64 lev, .int .i64 0, .int .i64 0] 220)).drew = W1 at *
 obtain ⟨sb, hsb⟩ : ∃ sb, sb = w.heap.size := ⟨_, rfl⟩
 have HSB : Hid (w.heap.size ≤ sb) := by rw [hsb]; exact Nat.le_refl _
 have HN1' : Hid (NS W1 w.heap.size sb (.slice (some ⟨gp, op, none⟩) m cp) (.slice none 0 0) (.slice none 0 0) lev (gath L.rs (at'.take 0)) (gath ks (at'.take 0))) := by rw [hsb]; exact HN1.out
 rw [← hsb]
 clear hsb HN1
 go_wp2
 go_loopg [22] m (fun gk iv W => ∃ (j : Nat) (vr vc : Value), j ≤ m ∧ gk = m - j ∧ iv = .int .i64 j ∧ NS W w.heap.size sb (.slice (some ⟨gp, op, none⟩) m cp) vr vc lev (gath L.rs (at'.take j)) (gath ks (at'.take j)) ∧ Below w.heap.size w W)
 case atStart => exact ⟨0, .slice none 0 0, .slice none 0 0, by omega, rfl, rfl, HN1'.out, HB1.out⟩
 case round =>
  clear HN1' HB1
  obtain ⟨j, vr, vc, hj, rfl, rfl, hN, hB⟩ := hrel
  by_cases hlt : j < m
  ·obtain ⟨cj, hpn⟩ := HP.out wr hB j hlt
   have hX := HX.out wr hB
   have hja : j < at'.length := by rw [HL.out]; exact hlt
   have c0 : wr.cell? ⟨L.lb, 0, none⟩ = some L.rv := heap_cell hX.cell 0
   have cr := hX.ru _ hpn
   have s1 : wr.cell? ⟨sb, 1, none⟩ = some vr := heap_cell hN.cell 1
   have hjm : (j : Int) < (m : Int) := by omega
   have hpn' : ((at'.getD j 0 : Nat) : Int) < (L.n : Int) := by omega
   have eR := gathN_take_succ L.rs at' j hja
   have eC := gathN_take_succ ks at' j hja
   have lR : (gath L.rs (at'.take j)).length = j := by rw [gath, List.length_map, List.length_take]; omega
   have lC : (gath ks (at'.take j)).length = j := by rw [gath, List.length_map, List.length_take]; omega
   have HEq : Hid (gath L.rs (at'.take (j + 1)) = gath L.rs (at'.take j) ++ [L.rs.getD (at'.getD j 0) 0] ∧ gath ks (at'.take (j + 1)) = gath ks (at'.take j) ++ [ks.getD (at'.getD j 0) 0]) := ⟨eR, eC⟩
   have HN : Hid (NS wr w.heap.size sb (.slice (some ⟨gp, op, none⟩) m cp) vr vc lev (gath L.rs (at'.take j)) (gath ks (at'.take j))) := hN
   have HB : Hid (Below w.heap.size w wr) := hB
   have hbz := hB.size
   obtain ⟨ra, rc, hvr⟩ := own_form hN.rr
   rw [lR] at hvr
   subst hvr
   obtain ⟨ca, ccp, hvc⟩ := own_form hN.rc
   rw [lC] at hvc
   subst hvc
   have hrr := hN.rr
   rw [lR] at hrr
   have HlR : Hid ((gath L.rs (at'.take j)).length = j ∧ (gath ks (at'.take j)).length = j) := ⟨lR, lC⟩
   clear lR lC
   clear hX hN hB eR eC
   unfold LP.rv at c0
   generalize at'.getD j 0 = pj at *
   have HXw : Hid (∀ W, Below w.heap.size w W → W.cell? ⟨L.lb, 2, none⟩ = some (.slice (some ⟨L.gc, 0, none⟩) L.n L.n) ∧ W.cell? ⟨L.gc, pj, none⟩ = some (.int .i64 (ks.getD pj 0))) := fun W hb => ⟨(HX.out W hb).f2, (HX.out W hb).ck pj hpn⟩
   generalize L.rs.getD pj 0 = y at *
   generalize ks.getD pj 0 = z at *
   have s1' : (wr.alloc (.cells #[.int .i32 y] 21)).cell? ⟨sb, 1, none⟩ = some (.slice ra j rc) := (World.cell?_alloc_lt _ _ ⟨sb, 1, none⟩ (heap_lt HN.out.cell)).trans s1
   go_wp2
   go_region_law (refine step_append_own rfl _ _ 138 rfl w.heap.size 21 i32 (.int .i32 0) 1 4 Tryz.underlying138 hi32 hz0 hz1 hz2 rfl (by decide) (by decide) _ _ (rv32 (gath L.rs (at'.take j))) rfl (World.ownsRow.alloc hrr (.cells #[.int .i32 y] 21)) _ [.int .i32 y] rfl rfl (news1 wr _ _) (by intro u hu; simp at hu; subst hu; rfl) (by omega) (by simp; omega) ?_; intro v5 w5 hown5 hg5 _; obtain ⟨a5, c5', rfl⟩ := own_form hown5; obtain ⟨hN5, c5, f5⟩ := HN.out.pushR (by rw [HlR.out.1]; exact hown5) ((alloc1_grown wr _ _).trans hg5); have HB5 : Hid (Below w.heap.size w w5) := (HB.out.alloc hbz _).drew.grown hg5 (by simp; omega) (fun q hq => (hrr.lt q hq).1); clear hown5 hg5)
   all_goals
    have HB6 : Hid (Below w.heap.size w (w5.setCell ⟨sb, 1, none⟩ (.slice a5 (j + 1) c5'))) := HB5.out.setCell (p := ⟨sb, 1, none⟩) HSB.out _
    have HN6 : Hid (NS (w5.setCell ⟨sb, 1, none⟩ (.slice a5 (j + 1) c5')) w.heap.size sb (.slice (some ⟨gp, op, none⟩) m cp) (.slice a5 (j + 1) c5') (.slice ca j ccp) lev (gath L.rs (at'.take j) ++ [y]) (gath ks (at'.take j))) := hN5
    clear c5 f5 hN5 s1 s1' c0 cr cj hrr HB5
    generalize w5.setCell ⟨sb, 1, none⟩ (.slice a5 (j + 1) c5') = W6 at *
    obtain ⟨d2, dk⟩ := HXw.out W6 HB6.out
    have s2 : W6.cell? ⟨sb, 2, none⟩ = some (.slice ca j ccp) := heap_cell HN6.out.cell 2
    have hrc := HN6.out.rc
    rw [HlR.out.2] at hrc
    have hbz6 := HB6.out.size
    have s2' : (W6.alloc (.cells #[.int .i64 z] 108)).cell? ⟨sb, 2, none⟩ = some (.slice ca j ccp) := (World.cell?_alloc_lt _ _ ⟨sb, 2, none⟩ (heap_lt HN6.out.cell)).trans s2
    go_wp2
    go_region_law (refine step_append_own rfl _ _ 139 rfl w.heap.size 108 iC (.int .i64 0) 1 8 Tryz.underlying139 hiC hc0 hc1 hc2 rfl (by decide) (by decide) _ _ (iv (gath ks (at'.take j))) rfl (World.ownsRow.alloc hrc (.cells #[.int .i64 z] 108)) _ [.int .i64 z] rfl rfl (news1 W6 _ _) (by intro u hu; simp at hu; subst hu; rfl) (by omega) (by simp; omega) ?_; intro v7 w7 hown7 hg7 _; obtain ⟨a7, c7', rfl⟩ := own_form hown7; obtain ⟨hN7, c7, f7⟩ := HN6.out.pushC (by rw [HlR.out.2]; exact hown7) ((alloc1_grown W6 _ _).trans hg7); have HB7 : Hid (Below w.heap.size w w7) := (HB6.out.alloc hbz6 _).drew.grown hg7 (by simp; omega) (fun q hq => (hrc.lt q hq).1); clear hown7 hg7)
    all_goals
     have HN8 : Hid (NS (w7.setCell ⟨sb, 2, none⟩ (.slice a7 (j + 1) c7')) w.heap.size sb (.slice (some ⟨gp, op, none⟩) m cp) (.slice a5 (j + 1) c5') (.slice a7 (j + 1) c7') lev (gath L.rs (at'.take (j + 1))) (gath ks (at'.take (j + 1)))) := by rw [HEq.out.1, HEq.out.2]; exact hN7
     have HB8 : Hid (Below w.heap.size w (w7.setCell ⟨sb, 2, none⟩ (.slice a7 (j + 1) c7'))) := HB7.out.setCell (p := ⟨sb, 2, none⟩) HSB.out _
     clear hN7 c7 f7 HB7
     go_wp2
     go_roundg (m - (j + 1))
     case measure => omega
     case rel => exact ⟨j + 1, _, _, by omega, rfl, by go_num, HN8.out, HB8.out⟩
  ·obtain rfl : j = m := by omega
   have hte : at'.take j = at' := List.take_of_length_le (by rw [HL.out]; exact Nat.le_refl _)
   rw [hte] at hN
   have hgl : ∀ l : List Int, (gath l at').length = j := fun l => by rw [gath, List.length_map, HL.out]
   obtain ⟨gr, cr, rfl, _, hgr, hgrB⟩ := own_some hN.rr (by rw [hgl]; exact hm)
   obtain ⟨gc, cc, rfl, _, hgc, hgcB⟩ := own_some hN.rc (by rw [hgl]; exact hm)
   rw [hgl, hgl] at hN
   have hrr : wr.ownsRow w.heap.size 21 1 (.slice (some ⟨gr, 0, none⟩) j cr) j (rv32 (gath L.rs at')) := by have := hN.rr; rw [hgl] at this; exact this
   have hrc : wr.ownsRow w.heap.size 108 1 (.slice (some ⟨gc, 0, none⟩) j cc) j (iv (gath ks at')) := by have := hN.rc; rw [hgl] at this; exact this
   have nrl : gr ≠ sb := fun e => own_ne_cells hN.rr hN.cell (by decide) (by rw [e]; rfl)
   have ncl : gc ≠ sb := fun e => own_ne_cells hN.rc hN.cell (by decide) (by rw [e]; rfl)
   have hS0 : SB wr sb (.slice (some ⟨gp, op, none⟩) j cp) (.slice (some ⟨gr, 0, none⟩) j cr) (.slice (some ⟨gc, 0, none⟩) j cc) (.slice none 0 0) (.int .i64 lev) (.int .i64 0) (.int .i64 0) := hN.cell
   have hsbw : sb < wr.heap.size := heap_lt hN.cell
   have hmk := run_make_row' (P := Tryz.prog) 139 108 (.int .i64 0) 8 Tryz.underlying139 Tryz.infoCls rfl .i64 .i64 j (by omega) (by omega)
   have hjm : ¬ (j : Int) < (j : Int) := by omega
   clear hN
   have hS1 : SB (wr.alloc (.cells (madeCells #[.int .i64 0] j) 108)) sb _ _ _ _ _ _ _ := hS0.grown (alloc_grown2 wr _ none) (by simp)
   have c2 := hS0.c2
   obtain ⟨d3, e3⟩ := hS1.c3
   have hO1 : RowAt (wr.alloc (.cells (madeCells #[.int .i64 0] j) 108)) w.heap.size 108 wr.heap.size j (List.replicate j (.int .i64 0)) := RowAt.made hB.size (by omega)
   have hg1 : wr.grownBy ((wr.alloc (.cells (madeCells #[.int .i64 0] j) 108)).setCell ⟨sb, 3, none⟩ (.slice (some ⟨wr.heap.size, 0, none⟩) j j)) (some sb) := (alloc_grown2 wr _ _).trans (set_grown _ sb 3 _)
   have hS2 := hS1.s3 (.slice (some ⟨wr.heap.size, 0, none⟩) j j)
   have hO2 : RowAt ((wr.alloc (.cells (madeCells #[.int .i64 0] j) 108)).setCell ⟨sb, 3, none⟩ (.slice (some ⟨wr.heap.size, 0, none⟩) j j)) w.heap.size 108 wr.heap.size j (List.replicate j (.int .i64 0)) := hO1.setOther sb 3 _ (by omega)
   have hB2 : Below w.heap.size w ((wr.alloc (.cells (madeCells #[.int .i64 0] j) 108)).setCell ⟨sb, 3, none⟩ (.slice (some ⟨wr.heap.size, 0, none⟩) j j)) := (hB.alloc hB.size _).setCell (p := ⟨sb, 3, none⟩) HSB.out _
   have hrr2 := own_grown2 hrr hg1 nrl
   have hrc2 := own_grown2 hrc hg1 ncl
   have h2 := And.intro hS2 (And.intro hO2 (And.intro hB2 (And.intro hrr2 hrc2)))
   have H2 : Hid _ := h2
   have HLt : Hid (gr < wr.heap.size ∧ gc < wr.heap.size ∧ sb < wr.heap.size ∧ w.heap.size ≤ wr.heap.size) := ⟨hgr, hgc, hsbw, hB.size⟩
   clear hS0 hS1 hO1 hg1 hS2 hO2 hB2 hrr2 hrc2 hrr hrc hB hgr hgc hsbw h2 hte
   obtain ⟨gb, hgb⟩ : ∃ gb, gb = wr.heap.size := ⟨_, rfl⟩
   go_wp2
   generalize ((wr.alloc (.cells (madeCells #[.int .i64 0] j) 108)).setCell ⟨sb, 3, none⟩ (.slice (some ⟨wr.heap.size, 0, none⟩) j j)) = W2 at *
   rw [← hgb] at H2 HLt ⊢
   clear hgb c2 d3 e3
   obtain ⟨hS2, hO2, hB2, hrr2, hrc2⟩ := H2.out
   clear H2
   obtain ⟨W3, hcp, hh3, hg3⟩ := copy_all (P := Tryz.prog) (w := W2.drew) (sT := 139) (e := 108) (ty := 3) (g := gb) Tryz.underlying139 Tryz.sizeCls (RowAt.heap hO2) (by simp) (World.ownsRow.drew hrc2) (fun v hv => by simp only [iv, List.mem_map] at hv; obtain ⟨x, _, rfl⟩ := hv; rfl)
   have hg3' : W2.grownBy W3 (some gb) := (show W2.grownBy W2.drew (some gb) from ⟨rfl, rfl, rfl, Nat.le_refl _, fun _ _ _ => rfl⟩).trans hg3
   have hS3 : SB W3 sb _ _ _ _ _ _ _ := hS2.grown hg3' (by have := HLt.out; simp; omega)
   have hO3 : RowAt W3 w.heap.size 108 gb j (iv (gath ks at')) := RowAt.ofHeap hh3 (by have := HLt.out; omega) (by rw [iv_length, hgl]) (by omega)
   have hB3 : Below w.heap.size w W3 := hB2.grown hg3' hB2.size (fun k hk => by cases hk; have := HLt.out; omega)
   have hrr3 := own_grown2 hrr2 hg3' (by have := HLt.out; omega)
   have hrc3 := own_grown2 hrc2 hg3' (by have := HLt.out; omega)
   have c2 := hS2.c2
   have c3 := hS2.c3.1
   have h3 := And.intro hS3 (And.intro hO3 (And.intro hB3 (And.intro hrr3 hrc3)))
   have H3 : Hid _ := h3
   clear hS2 hO2 hB2 hrr2 hrc2 hh3 hg3 hg3' hS3 hO3 hB3 hrr3 hrc3 h3
   go_region
   all_goals
    clear c2 c3 hcp hmk
    obtain ⟨hS3, hO3, hB3, hrr3, hrc3⟩ := H3.out
    clear H3
    obtain ⟨cp0, _⟩ := HP.out W3 hB3 0 (by omega)
    rw [Nat.add_zero] at cp0
    have h00 : at'.getD 0 0 = p0 := by rw [HE0.out.2]; cases at' <;> rfl
    rw [h00] at cp0
    obtain ⟨bA, hbA⟩ : ∃ bA, bA = befF ls (xLeft L.cs) L.p p0 := ⟨_, rfl⟩
    obtain ⟨mA, hmA⟩ : ∃ mA, (if lev < bA then bA else lev) = mA := ⟨_, rfl⟩
    have hl0 : 0 ≤ lev := by rw [HE0.out.1]; exact (hlv _).1
    have hA0 : 0 ≤ bA := by rw [hbA]; exact befF_low (fun p => (hlv p).1) hp.1 _
    have hm0' : 0 ≤ mA := by rw [← hmA]; split <;> omega
    have HmX : Hid (max lev bA = mA) := show max lev bA = mA by rw [← hmA]; split <;> omega
    have HAh : Hid (∀ W, Below w.heap.size w W → Calls Tryz.prog 219 #[.pointer (some ⟨L.lb, 0, none⟩), .int .i64 p0] W fun e w' => e = .returned (.int .i64 bA) ∧ w' = W) := fun W hb => by rw [hbA]; exact ahead_any W L ks ls (HX.out W hb) hn p0 hp0
    have HSd : Hid (∀ W, Calls Tryz.prog 96 #[.int .i64 mA] W fun e w' => e = .returned (.int .i64 (mA % 2)) ∧ w' = W) := fun W => sideOf_any mA W hm0'
    have HsA : Hid (sideS lev (befF ls (xLeft L.cs) L.p p0) = mA % 2) := by rw [← hbA]; exact sideS_mod hmA hm0'
    have c4 := hS3.c4
    obtain ⟨c5, f5⟩ := hS3.c5
    have hS4 := hS3.s5 (.int .i64 (mA % 2))
    have hg4 : W3.grownBy (W3.setCell ⟨sb, 5, none⟩ (.int .i64 (mA % 2))) (some sb) := set_grown _ sb 5 _
    have hB4 : Below w.heap.size w (W3.setCell ⟨sb, 5, none⟩ (.int .i64 (mA % 2))) := hB3.setCell (p := ⟨sb, 5, none⟩) HSB.out _
    have hO4 : RowAt (W3.setCell ⟨sb, 5, none⟩ (.int .i64 (mA % 2))) w.heap.size 108 gb j (iv (gath ks at')) := own_grown2 hO3 hg4 (by have := HLt.out; omega)
    have hrr4 := own_grown2 hrr3 hg4 nrl
    have hrc4 := own_grown2 hrc3 hg4 ncl
    have y4 := hS4.c4
    have yp : (W3.setCell ⟨sb, 5, none⟩ (.int .i64 (mA % 2))).cell? ⟨gp, op, none⟩ = some (.int .i64 ((p0 : Nat) : Int)) := by
     have := (HP.out _ hB4 0 (by omega)).1
     rw [Nat.add_zero, h00] at this
     exact this
    have h4 := And.intro hS4 (And.intro hO4 (And.intro hB4 (And.intro hrr4 hrc4)))
    have H4 : Hid _ := h4
    have HB3 : Hid (Below w.heap.size w W3) := hB3
    clear hS3 hO3 hB3 hrr3 hrc3 hS4 hg4 hB4 hO4 hrr4 hrc4 h4 hbA h00 hl0 hA0 hm0'
    go_wp2
    go_region_held3 (fun w' => w'.cell? ⟨sb, 4, none⟩ = some (.int .i64 lev) ∧ w'.cell? ⟨gp, op, none⟩ = some (.int .i64 ((p0 : Nat) : Int))) (first | go_keep | exact ⟨y4, yp⟩)
     (first
      | (go_at_call 219; refine (HAh.out _ HB3.out.drew).mono ?_; rintro ev wx ⟨rfl, rfl⟩)
      | (go_at_call 96; (try rw [HmX.out]); refine (HSd.out _).mono ?_; rintro ev wx ⟨rfl, rfl⟩))
    all_goals
     generalize W3.setCell ⟨sb, 5, none⟩ (.int .i64 (mA % 2)) = W4 at *
     clear y4 yp c4 c5 f5 cp0 HAh HSd HB3 hmA HmX
     obtain ⟨hS4, hO4, hB4, hrr4, hrc4⟩ := H4.out
     clear H4
     have hS4 : SB W4.drew sb _ _ _ _ _ _ _ := hS4
     have hO4 : RowAt W4.drew w.heap.size 108 gb j (iv (gath ks at')) := hO4
     have hB4 : Below w.heap.size w W4.drew := hB4.drew
     have hrr4 := World.ownsRow.drew hrr4
     have hrc4 := World.ownsRow.drew hrc4
     generalize W4.drew = W5 at *
     obtain ⟨cp1, hpl⟩ := HP.out W5 hB4 (j - 1) (by omega)
     obtain ⟨p1, hp1⟩ : ∃ p1, p1 = at'.getD (j - 1) 0 := ⟨_, rfl⟩
     have HE1 : Hid (at'.getLastD 0 = p1) := by
      show _ = _
      rw [hp1, List.getLastD_eq_getLast?, List.getLast?_eq_getElem?, HL.out, List.getD_eq_getElem?_getD]
     rw [← hp1] at cp1 hpl
     obtain ⟨bE, hbE⟩ : ∃ bE, bE = behS L.cs ls (xLeft L.cs) L.p p1 := ⟨_, rfl⟩
     obtain ⟨mE, hmE⟩ : ∃ mE, (if lev < bE then bE else lev) = mE := ⟨_, rfl⟩
     have hl0 : 0 ≤ lev := by rw [HE0.out.1]; exact (hlv _).1
     have hE0 : 0 ≤ bE := by rw [hbE]; exact behS_low (fun p => (hlv p).1) hp.1
     have hm0' : 0 ≤ mE := by rw [← hmE]; split <;> omega
     have HmX : Hid (max lev bE = mE) := show max lev bE = mE by rw [← hmE]; split <;> omega
     have HBh : Hid (∀ W, Below w.heap.size w W → Calls Tryz.prog 220 #[.pointer (some ⟨L.lb, 0, none⟩), .int .i64 p1] W fun e w' => e = .returned (.int .i64 bE) ∧ w' = W) := fun W hb => by rw [hbE]; exact behind_any W L ks ls (HX.out W hb) hn p1 hpl
     have HSd : Hid (∀ W, Calls Tryz.prog 96 #[.int .i64 mE] W fun e w' => e = .returned (.int .i64 (mE % 2)) ∧ w' = W) := fun W => sideOf_any mE W hm0'
     have HsE : Hid (sideS lev (behS L.cs ls (xLeft L.cs) L.p p1) = mE % 2) := by rw [← hbE]; exact sideS_mod hmE hm0'
     have c4 := hS4.c4
     obtain ⟨c6, f6⟩ := hS4.c6
     have hS6 := hS4.s6 (.int .i64 (mE % 2))
     have hg6 : W5.grownBy (W5.setCell ⟨sb, 6, none⟩ (.int .i64 (mE % 2))) (some sb) := set_grown _ sb 6 _
     have hB6 : Below w.heap.size w (W5.setCell ⟨sb, 6, none⟩ (.int .i64 (mE % 2))) := hB4.setCell (p := ⟨sb, 6, none⟩) HSB.out _
     have hO6 : RowAt (W5.setCell ⟨sb, 6, none⟩ (.int .i64 (mE % 2))) w.heap.size 108 gb j (iv (gath ks at')) := own_grown2 hO4 hg6 (by have := HLt.out; omega)
     have hrr6 := own_grown2 hrr4 hg6 nrl
     have hrc6 := own_grown2 hrc4 hg6 ncl
     have y4 := hS6.c4
     have yp : (W5.setCell ⟨sb, 6, none⟩ (.int .i64 (mE % 2))).cell? ⟨gp, op + (j - 1), none⟩ = some (.int .i64 ((p1 : Nat) : Int)) := by
      have := (HP.out _ hB6 (j - 1) (by omega)).1
      rw [← hp1] at this
      exact this
     have h6 := And.intro hS6 (And.intro hO6 (And.intro hB6 (And.intro hrr6 hrc6)))
     have H6 : Hid _ := h6
     have HB4 : Hid (Below w.heap.size w W5) := hB4
     clear hS4 hO4 hB4 hrr4 hrc4 hS6 hg6 hB6 hO6 hrr6 hrc6 h6 hbE hp1 hl0 hE0 hm0' hpl
     have hj1 : (1 : Int) ≤ (j : Int) := by omega
     have hj2 : (0 : Int) ≤ (j : Int) - 1 := by omega
     have hj3 : (j : Int) - 1 < (j : Int) := by omega
     have hj4 : (j : Int) ≤ (j : Int) := by omega
     have hj5 : (0 : Int) < (j : Int) := by omega
     have hw : IntKind.i64.wrap ((j : Int) - 1) = (j : Int) - 1 := IntWalk.i64_in _ ⟨by omega, by omega⟩
     go_wp2
     go_region_held3 (fun w' => w'.cell? ⟨sb, 4, none⟩ = some (.int .i64 lev) ∧ w'.cell? ⟨gp, op + (j - 1), none⟩ = some (.int .i64 ((p1 : Nat) : Int))) (first | go_keep | exact ⟨y4, yp⟩)
      (first
       | (go_at_call 220; refine (HBh.out _ HB4.out.drew).mono ?_; rintro ev wx ⟨rfl, rfl⟩)
       | (go_at_call 96; (try rw [HmX.out]); refine (HSd.out _).mono ?_; rintro ev wx ⟨rfl, rfl⟩))
     all_goals
      generalize W5.setCell ⟨sb, 6, none⟩ (.int .i64 (mE % 2)) = W6 at *
      clear y4 yp c4 c6 f6 cp1 HBh HSd HB4 hmE HmX hj1 hj2 hj3 hj4 hj5 hw
      obtain ⟨hS6, hO6, hB6, hrr6, hrc6⟩ := H6.out
      clear H6
      have HF : Hid (SqC W6.drew w.heap.size sb gc j cc (.slice (some ⟨gp, op, none⟩) j cp) (.slice (some ⟨gr, 0, none⟩) j cr) (.slice (some ⟨gb, 0, none⟩) j j) lev (mA % 2) (mE % 2) (gath ks at') ∧ W6.drew.ownsRow w.heap.size 21 1 (.slice (some ⟨gr, 0, none⟩) j cr) j (rv32 (gath L.rs at')) ∧ RowAt W6.drew w.heap.size 108 gb j (iv (gath ks at')) ∧ Below w.heap.size w W6.drew ∧ sb < W6.drew.heap.size) := ⟨⟨hS6, hrc6⟩, hrr6, hO6, hB6.drew, heap_lt hS6⟩
      clear hS6 hO6 hB6 hrr6 hrc6
      go_wp2
      go_ret
      refine ⟨sb, gr, cr, gc, cc, gb, rfl, ?_, HF.out.2.1, HF.out.2.2.1, by have := HLt.out; omega, HSB.out, HF.out.2.2.2.2, HF.out.2.2.2.1⟩
      rw [HE1.out, HsA.out, HsE.out]
      exact HF.out.1
end Go.Proofs.YtkbinfhclaafhaaGreatDoor
