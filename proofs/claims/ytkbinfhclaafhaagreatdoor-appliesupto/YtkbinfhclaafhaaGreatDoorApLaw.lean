import Derived.Test.YtkbinfhclaafhaaGreatDoorApRow
import Derived.Deep.RegionHeld3
import Derived.Deep.AppendLies
import Derived.Deep.DrawnRows
namespace Go.Proofs.YtkbinfhclaafhaaGreatDoor
open Go.RowKit

theorem op_cells4 {w : World} {z : Nat} {a b c d : Value} {T : TypeId} (h : w.heap[z]? = some (.cells #[a, b, c, d] T (0, 0))) : w.cell? ⟨z, 2, none⟩ = some c ∧ w.cell? ⟨z, 3, none⟩ = some d :=
  ⟨by rw [Lib.cell_of_heap h]; rfl, by rw [Lib.cell_of_heap h]; rfl⟩
theorem heap_lt5 {w : World} {k : Nat} {o : Obj} (h : w.heap[k]? = some o) : k < w.heap.size := by
  rcases Nat.lt_or_ge k w.heap.size with h' | h'
  · exact h'
  · rw [Array.getElem?_eq_none h'] at h; cases h
theorem grown_below {w w1 w' : World} {B : Nat} {v : Value} {z : Nat} {T : TypeId} {n : Nat} {xs : List Value} (hb : Below B w w1) (hB : B ≤ w1.heap.size) (hown : w1.ownsRow (B + 1) T z v n xs) (hg : w1.grownBy w' v.ownBlock) : Below B w w' :=
  hb.grown hg hB fun k hk => by have := (hown.lt k hk).1; omega
set_option maxRecDepth 100000 in
set_option maxHeartbeats 8000000 in
theorem applied_row (k a : Int) (s : ByteArray) (es : List Ed) (b off m cap : Nat) (w : World) (hl : es.length = m) (h0 : 0 < m) (hm : m ≤ 1048576) (hc : EdsAt w b off es) (hN : s.size + sumN es ≤ 10000000) (hA : ∀ e ∈ es, e.a ≤ 9223372036854775807) :
    Calls Tryz.prog 34 #[.agg #[.int .i64 k, .int .i64 a, .string s, .slice (some ⟨b, off, none⟩) m cap]] w fun e w' => e = .returned (.bool true) ∧ Below w.heap.size w w' := by
  obtain ⟨iE, hiE, hzE0, hzE1, hzE2⟩ := info_parts Tryz.infoEd
  have HC : Hid (EdsAt w b off es) := hc
  have HL : Hid (es.length = m) := hl
  have HA : Hid (∀ e ∈ es, e.a ≤ 9223372036854775807) := hA
  have HB1 : Hid (Below w.heap.size w (w.alloc (.cells #[.int .i64 k, .int .i64 a, .string s, .slice (some ⟨b, off, none⟩) m cap] 29))) := (Below.refl _ _).alloc (Nat.le_refl _) _
  have HO1 : Hid ((w.alloc (.cells #[.int .i64 k, .int .i64 a, .string s, .slice (some ⟨b, off, none⟩) m cap] 29)).heap[w.heap.size]? = some (.cells #[.int .i64 k, .int .i64 a, .string s, .slice (some ⟨b, off, none⟩) m cap] 29 (0, 0))) := by show (w.heap.push _)[w.heap.size]? = _; simp
  have HR1 : Hid ((w.alloc (.cells #[.int .i64 k, .int .i64 a, .string s, .slice (some ⟨b, off, none⟩) m cap] 29)).ownsRow (w.heap.size + 1) 66 3 (.slice none 0 0) 0 (edsV [])) := World.ownsRow_nil _ _ _ _
  clear hc hl hA
  go_enter Tryz.func34, Tryz.ntmps34
  go_wp2
  go_loopg [3, 4] m (fun gk lv iv W => ∃ (j : Nat), j ≤ m ∧ gk = m - j ∧ iv = .int .i64 j ∧ Below w.heap.size w W ∧ w.heap.size < W.heap.size ∧ W.heap[w.heap.size]? = some (.cells #[.int .i64 k, .int .i64 a, .string s, .slice (some ⟨b, off, none⟩) m cap] 29 (0, 0)) ∧ W.ownsRow (w.heap.size + 1) 66 3 lv j (edsV (es.take j)))
  case atStart => exact ⟨0, by omega, rfl, rfl, HB1.out, by simp, HO1.out, HR1.out⟩
  case round =>
    clear HB1 HO1 HR1
    obtain ⟨j, hj, rfl, rfl, hB, hz, hO, hrow⟩ := hrel
    obtain ⟨av, cv, rfl⟩ := eds_form hrow
    obtain ⟨c2, c3⟩ := op_cells4 hO
    by_cases hlt : j < m
    · have hje : j < es.length := by rw [HL.out]; exact hlt
      obtain ⟨e0, e1, e2⟩ := (HC.out.below hB) j hje
      have HS : Hid (edsV (es.take (j + 1)) = edsV (es.take j) ++ [.int .i64 es[j].a, .int .i64 es[j].c, .string es[j].n]) := by
        show _ = _
        rw [List.take_add_one, List.getElem?_eq_getElem hje, ← edsV_snoc]; rfl
      generalize es[j] = e at *
      obtain ⟨ea, ec, en⟩ := e
      simp only at e0 e1 e2 HS
      have hjm : (j : Int) < (m : Int) := by omega
      have HB : Hid (Below w.heap.size w wr) := hB
      have HO : Hid _ := hO
      have hj6 : j ≤ 2000000 := by omega
      clear hB hO hje
      have lb := World.block_lt_of_cell? wr _ e0
      have lbw := World.block_lt_of_cell? w _ (HC.out j (by rw [HL.out]; exact hlt)).1
      have hj0 : (0 : Int) ≤ (j : Int) := Int.natCast_nonneg _
      have ag : (Value.slice av j cv).ownBlock ≠ some w.heap.size := fun h => by have := (hrow.lt _ h).1; omega
      have ak : (Value.slice av j cv).ownBlock ≠ some b := fun h => by have := (hrow.lt _ h).1; simp at lbw; omega
      have HJ : Hid ((j + 1) * 32 ≤ 140737488355328) := by show _ ≤ _; omega
      have HM : Hid (j + 1 ≤ maxLen) := by show _ ≤ _; unfold maxLen; omega
      clear c2 lbw
      go_wp2_with fail
      go_region_held3 (fun w' => w'.cell? ⟨w.heap.size, 3, none⟩ = some (.slice (some ⟨b, off, none⟩) m cap) ∧ w'.cell? ⟨b, off + j * 3, none⟩ = some (.int .i64 ea) ∧ w'.cell? ⟨b, off + j * 3 + 1, none⟩ = some (.int .i64 ec) ∧ w'.cell? ⟨b, off + j * 3 + 2, none⟩ = some (.string en))
        (first
          | go_keep
          | (go_split_ands
             refine ⟨?_, ?_, ?_, ?_⟩
             · (rw [hgrow.cell_far _ (by simp; omega) (Ne.symm ag)]; assumption)
             · (rw [hgrow.cell_far _ (by simp; omega) (Ne.symm ak)]; assumption)
             · (rw [hgrow.cell_far _ (by simp; omega) (Ne.symm ak)]; assumption)
             · (rw [hgrow.cell_far _ (by simp; omega) (Ne.symm ak)]; assumption)))
        ((refine step_append_lies _ (by rfl) _ _ _ (by rfl) (w.heap.size + 1) 66 iE _ 3 32 Tryz.underlying37 hiE hzE0 hzE1 hzE2 rfl (by omega) (.slice av j cv) j (edsV (es.take j)) (by rfl) ((hrow.alloc _).drew)
            ⟨wr.heap.size, 0, none⟩ 1 1 [.int .i64 ea, .int .i64 ec, .string en] (by rfl) (by rfl) (World.news_of_block (cs := #[.int .i64 ea, .int .i64 ec, .string en]) (t := 66) (fr := (0, 0)) (heap_alloc_new wr _)) (by simp [Value.oneCell'])
            (by omega) HM.out HJ.out (by simp; omega) (wr.heap.size + 1) (by simp) ?_; intro gg cap5 w5 hown5 hgrow hat hlt5))
      have HB5 : Hid (Below w.heap.size w w5) := grown_below ((HB.out.alloc HB.out.size _).drew) (by simp; omega) ((hrow.alloc _).drew) hgrow
      have HO5 : Hid (w5.heap[w.heap.size]? = some (.cells #[.int .i64 k, .int .i64 a, .string s, .slice (some ⟨b, off, none⟩) m cap] 29 (0, 0))) := by
        show _ = _
        rw [hgrow.block w.heap.size (by simp; omega) ag.symm]
        exact (Below.heap_alloc wr _ w.heap.size hz).trans HO.out
      have HR5 : Hid (w5.ownsRow (w.heap.size + 1) 66 3 (.slice (some ⟨gg, 0, none⟩) (j + 1) cap5) (j + 1) (edsV (es.take (j + 1)))) := by
        show w5.ownsRow _ _ _ _ _ _
        rw [HS.out]; exact hown5
      have hz5 : w.heap.size < w5.heap.size := heap_lt5 HO5.out
      clear hown5 hgrow hat hrow ag ak lb e0 e1 e2 c3
      go_wp2
      go_roundg (m - (j + 1))
      case measure => omega
      case rel => exact ⟨j + 1, by omega, rfl, by go_num, HB5.out, hz5, HO5.out, HR5.out⟩
    · obtain rfl : j = m := by omega
      have hte : es.take j = es := List.take_of_length_le (by rw [HL.out]; exact Nat.le_refl _)
      rw [hte] at hrow
      obtain ⟨g, cg, hv, hcg, hE⟩ := eds_read (by rw [HL.out]; exact hrow) (by rw [HL.out]; exact h0)
      rw [HL.out] at hv hcg
      rw [hv] at hrow ⊢
      have HB : Hid (Below w.heap.size w wr) := hB
      have HO : Hid _ := hO
      have HE : Hid (EdsAt wr g 0 es) := hE
      have HE0 : Hid (EdsAt wr b off es) := HC.out.below hB
      have hjm : ¬ (j : Int) < (j : Int) := by omega
      have HG : Hid (∀ W, EdsAt W g 0 es → Calls Tryz.prog 24 #[.string s, .slice (some ⟨g, 0, none⟩) j cg] W fun e w' => e = .returned (.string ((es.foldl (apStep s) (⟨#[]⟩, 0)).1 ++ s.extract (es.foldl (apStep s) (⟨#[]⟩, 0)).2 s.size)) ∧ Below W.heap.size W w') := fun W hW => goApply_row s es g 0 j cg W HL.out (by omega) hW (by omega) HA.out
      have HF : Hid (∀ W, EdsAt W b off es → Calls Tryz.prog 53 #[.string s, .slice (some ⟨b, off, none⟩) j cap] W fun e w' => e = .returned (.string ((es.foldl (apStep s) (⟨#[]⟩, 0)).1 ++ s.extract (es.foldl (apStep s) (⟨#[]⟩, 0)).2 s.size)) ∧ Below W.heap.size W w') := fun W hW => refApply_row s es b off j cap W (by omega) HL.out (by omega) hW (by omega)
      obtain ⟨r, hr⟩ : ∃ r, r = (es.foldl (apStep s) (⟨#[]⟩, 0)).1 ++ s.extract (es.foldl (apStep s) (⟨#[]⟩, 0)).2 s.size := ⟨_, rfl⟩
      rw [← hr] at HG HF
      clear hB hO hE hr hv hrow hte
      go_wp2_with fail
      refine (HG.out _ HE.out).mono ?_
      rintro ev w1 ⟨rfl, hb1⟩
      have HB1 : Hid (Below w.heap.size w w1) := HB.out.trans (hb1.mono HB.out.size)
      have HO1 : Hid (w1.heap[w.heap.size]? = some (.cells #[.int .i64 k, .int .i64 a, .string s, .slice (some ⟨b, off, none⟩) j cap] 29 (0, 0))) := heap_keep hb1 HO.out
      have HE1 : Hid (EdsAt w1 g 0 es) := HE.out.below hb1
      have HE01 : Hid (EdsAt w1 b off es) := HE0.out.below hb1
      obtain ⟨c2, c3⟩ := op_cells4 HO1.out
      clear hb1
      go_wp2_with fail
      refine (HF.out _ HE01.out).mono ?_
      rintro ev w2 ⟨rfl, hb2⟩
      have HB2 : Hid (Below w.heap.size w w2) := HB1.out.trans (hb2.mono HB1.out.size)
      have HO2 : Hid (w2.heap[w.heap.size]? = some (.cells #[.int .i64 k, .int .i64 a, .string s, .slice (some ⟨b, off, none⟩) j cap] 29 (0, 0))) := heap_keep hb2 HO1.out
      have HE2 : Hid (EdsAt w2 g 0 es) := HE1.out.below hb2
      have HE02 : Hid (EdsAt w2 b off es) := HE01.out.below hb2
      clear hb2 c2 c3
      go_wp2
      go_loopg [7] j (fun gk iv W => ∃ (q : Nat), q ≤ j ∧ gk = j - q ∧ iv = .int .i64 q ∧ Below w2.heap.size w2 W)
      case atStart => exact ⟨0, by omega, rfl, rfl, Below.refl _ _⟩
      case round =>
        obtain ⟨q, hq, rfl, rfl, hBq⟩ := hrel
        have hOq := heap_keep hBq HO2.out
        obtain ⟨c2, c3⟩ := op_cells4 hOq
        by_cases hlt : q < j
        · have hqe : q < es.length := by rw [HL.out]; exact hlt
          obtain ⟨e0, e1, e2⟩ := (HE02.out.below hBq) q hqe
          obtain ⟨g0, g1, g2⟩ := (HE2.out.below hBq) q hqe
          rw [Nat.zero_add] at g0 g1 g2
          generalize es[q] = e at *
          obtain ⟨ea, ec, en⟩ := e
          simp only at e0 e1 e2 g0 g1 g2
          have hqm : (q : Int) < (j : Int) := by omega
          have HBq : Hid _ := hBq
          clear hBq hOq hqe c2
          go_wp2_with fail
          go_quiet (fail)
          go_wp2
          go_roundg (j - (q + 1))
          case measure => omega
          case rel => exact ⟨q + 1, by omega, rfl, by go_num, below_drewN HBq.out _⟩
        · obtain rfl : q = j := by omega
          have HBq : Hid _ := hBq
          clear hBq hOq c2
          go_wp2
          go_ret
          exact ⟨rfl, HB2.out.trans (HBq.out.mono HB2.out.size)⟩
end Go.Proofs.YtkbinfhclaafhaaGreatDoor
