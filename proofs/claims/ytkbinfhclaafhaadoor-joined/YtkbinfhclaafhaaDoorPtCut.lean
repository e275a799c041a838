import Derived.Test.YtkbinfhclaafhaaDoorPtTell
namespace Go.Proofs.YtkbinfhclaafhaaDoor
open Go.RowKit

/-! (*parts.reader).cut. -/
set_option maxRecDepth 100000 in
set_option maxHeartbeats 8000000 in
theorem cut_any (w : World) (rb : Nat) (s : ByteArray) (l n₀ : Nat) (J Jx : List PR → World → Prop) (X : List PR) (T : Tl l n₀ J Jx X) (hn : n₀ ≤ rb) (p : RP) (st : Bool) (pre : List PR) (h : Rs w rb s l J Jx X p st pre) (k t : Nat) (hk : k ≤ 2) (ht : t ≤ 2)
    (h1 : p.start ≤ p.from_) (h2 : p.start ≤ p.body) (h3 : p.start ≤ p.at_) (h4 : p.at_ ≤ 100000) (h5 : p.from_ ≤ 100000) (h6 : p.body ≤ 100000) (hX : st = false → (pre ++ emitP k t p) <+: X) :
    Calls Tryd.prog 14 #[.pointer (some ⟨rb, 0, none⟩), .int .i64 k, .int .i64 t] w fun e w' => (∃ v, e = .returned v) ∧ Below n₀ w w' ∧ ∃ st', (st = true → st' = true) ∧ Rs w' rb s l J Jx X (cutS t p st) st' (pre ++ emitP k t p) := by
  obtain ⟨ln, sa, fr, bo, at0⟩ := p
  simp only at h1 h2 h3 h4 h5 h6
  have hlt := h.rd.lt
  have c6 := h.rd.c6
  have f6 := h.rd.fz 6
  simp only at c6
  obtain ⟨at1, ha1⟩ : ∃ at1, at1 = at0 + t := ⟨_, rfl⟩
  have HA : Hid (at1 = at0 + t) := ha1
  have HH : Hid (Rs w rb s l J Jx X ⟨ln, sa, fr, bo, at0⟩ st pre) := h
  have hs1 := h.rd.s6 at1
  have hg1 : w.grownBy (w.setCell ⟨rb, 6, none⟩ (.int .i64 at1)) (some rb) := grown_set (grown_refl _ _)
  have hR1 : Rs (w.setCell ⟨rb, 6, none⟩ (.int .i64 at1)) rb s l J Jx X ⟨ln, sa, fr, bo, at1⟩ st pre := h.grown T hg1 hs1
  have hb1 : Below n₀ w (w.setCell ⟨rb, 6, none⟩ (.int .i64 at1)) := Below.of_grown' hg1 hn (by omega)
  have e0 : ((at0 : Int) + (t : Int)) = (at1 : Int) := by omega
  cases st with
  | true =>
    have HF : Hid (Below n₀ w (w.setCell ⟨rb, 6, none⟩ (.int .i64 at1)) ∧ Rs (w.setCell ⟨rb, 6, none⟩ (.int .i64 at1)) rb s l J Jx X ⟨ln, sa, fr, bo, at1⟩ true pre) := ⟨hb1, hR1⟩
    have c7 := hs1.c7
    have hcs : cutS t ⟨ln, sa, fr, bo, at0⟩ true = ⟨ln, sa, fr, bo, at1⟩ := by rw [cutS, if_pos rfl, ha1]
    rw [hcs]
    clear hcs h hs1 hg1 hR1 hb1 ha1 hX
    go_enter Tryd.func14, Tryd.ntmps14
    go_wp2
    go_quiet (fail)
    go_wp2
    refine bodyPost_ret (results_none rfl _ _ _) rfl ?_
    refine ⟨⟨_, rfl⟩, below_drewN HF.out.1 _, true, fun _ => rfl, ⟨HF.out.2.rd.drewN _, (fun e => by cases e), fun _ => ?_⟩⟩
    obtain ⟨q, hq, hx⟩ := HF.out.2.no rfl
    exact ⟨q, hq, T.hJx _ _ _ hx (Abd.of_grown HF.out.2.rd (grown_drewN (grown_refl _ _)))⟩
  | false =>
    have HF : Hid (Below n₀ w (w.setCell ⟨rb, 6, none⟩ (.int .i64 at1)) ∧ Rs (w.setCell ⟨rb, 6, none⟩ (.int .i64 at1)) rb s l J Jx X ⟨ln, sa, fr, bo, at1⟩ false pre) := ⟨hb1, hR1⟩
    have c7 := hs1.c7
    have c4 := hs1.c4
    have c6' := hs1.c6
    simp only at c4 c6'
    by_cases hfr : fr = at1
    · have hcs : cutS t ⟨ln, sa, fr, bo, at0⟩ false = ⟨ln, sa, fr, bo, at1⟩ := by rw [cutS, if_neg (by decide), cutP, if_pos (by rw [← ha1]; exact hfr), ha1]
      have hem : emitP k t ⟨ln, sa, fr, bo, at0⟩ = [] := by rw [emitP, if_pos (by rw [← ha1]; exact hfr)]
      rw [hcs, hem, List.append_nil]
      have hfr' : ((fr : Int) == (at1 : Int)) = true := by simp [hfr]
      clear hcs hem h hs1 hg1 hR1 hb1 ha1 hX hfr
      go_enter Tryd.func14, Tryd.ntmps14
      go_wp2
      go_quiet (fail)
      go_wp2
      refine bodyPost_ret (results_none rfl _ _ _) rfl ?_
      exact ⟨⟨_, rfl⟩, below_drewN HF.out.1 _, false, fun e => e, HF.out.2.grown T (grown_drewN (grown_refl _ _)) (HF.out.2.rd.drewN _)⟩
    · have hcs : cutS t ⟨ln, sa, fr, bo, at0⟩ false = ⟨ln, sa, at1, at1, at1⟩ := by rw [cutS, if_neg (by decide), cutP, if_neg (by rw [← ha1]; exact hfr), ha1]
      have hfr' : ((fr : Int) == (at1 : Int)) = false := by simp; omega
      have c3 := hs1.c3
      obtain ⟨F, hF⟩ : ∃ F, fr - sa = F := ⟨_, rfl⟩
      obtain ⟨G, hG⟩ : ∃ G, at0 + t - sa = G := ⟨_, rfl⟩
      have eF : (fr : Int) - (sa : Int) = (F : Int) := by omega
      have eG : (at1 : Int) - (sa : Int) = (G : Int) := by omega
      by_cases hk0 : k = 0
      · subst hk0
        have hem : emitP 0 t ⟨ln, sa, fr, bo, at0⟩ = [⟨ln, 0, F, G, 0, 0⟩] := by rw [emitP, if_neg (by rw [← ha1]; exact hfr), hF, hG, if_pos rfl, if_pos rfl]
        have hX' := hX rfl
        rw [hem] at hX'
        rw [hcs, hem]
        have HX : Hid ((pre ++ [(⟨ln, 0, F, G, 0, 0⟩ : PR)]) <+: X) := hX'
        clear hcs hem h hs1 hg1 hR1 hb1 ha1 hX hX' hfr hF hG
        go_enter Tryd.func14, Tryd.ntmps14
        go_wp2
        go_quiet (fail)
        go_wp2
        obtain ⟨W2, hW2⟩ : ∃ W2, W2 = (w.setCell ⟨rb, 6, none⟩ (.int .i64 at1)).drewN nq := ⟨_, rfl⟩
        have HF2 : Hid (Below n₀ w W2 ∧ Rs W2 rb s l J Jx X ⟨ln, sa, fr, bo, at1⟩ false pre) := by
          rw [hW2]
          exact ⟨below_drewN HF.out.1 _, HF.out.2.grown T (grown_drewN (grown_refl _ _)) (HF.out.2.rd.drewN _)⟩
        rw [← hW2]
        clear hW2 HF c7 c4 c6' c3 c6 f6
        have hz : rb < W2.heap.size := HF2.out.2.rd.lt
        have c3 := HF2.out.2.rd.c3
        have c4 := HF2.out.2.rd.c4
        have c6 := HF2.out.2.rd.c6
        simp only at c3 c4 c6
        have z3 : (W2.alloc (.cells #[.int .i64 0, .int .i64 0, .int .i64 0, .int .i64 0, .int .i64 0] 38)).cell? ⟨rb, 3, none⟩ = some (.int .i64 sa) := (cellAl _ _ _ hz).trans c3
        have z4 : (W2.alloc (.cells #[.int .i64 0, .int .i64 0, .int .i64 0, .int .i64 0, .int .i64 0] 38)).cell? ⟨rb, 4, none⟩ = some (.int .i64 fr) := (cellAl _ _ _ hz).trans c4
        have z6 : (W2.alloc (.cells #[.int .i64 0, .int .i64 0, .int .i64 0, .int .i64 0, .int .i64 0] 38)).cell? ⟨rb, 6, none⟩ = some (.int .i64 at1) := (cellAl _ _ _ hz).trans c6
        go_region
        all_goals
          go_wp2
          obtain ⟨W3, hW3⟩ : ∃ W3, W3 = (W2.alloc (.cells #[.int .i64 0, .int .i64 F, .int .i64 G, .int .i64 0, .int .i64 0] 38)).drew := ⟨_, rfl⟩
          have HP : Hid (W3.heap[W2.heap.size]? = some (.cells #[.int .i64 0, .int .i64 F, .int .i64 G, .int .i64 0, .int .i64 0] 38 (0, 0))) := by
            rw [hW3]
            exact World.alloc_heap_new W2 _
          have hg3 : W2.grownBy W3 (some rb) := by rw [hW3]; exact grown_drew (grown_al (grown_refl _ _) _)
          have HF3 : Hid (Below n₀ w W3 ∧ Rs W3 rb s l J Jx X ⟨ln, sa, fr, bo, at1⟩ false pre) := by
            refine ⟨HF2.out.1.trans (Below.of_grown' hg3 hn (by omega)), HF2.out.2.grown T hg3 ?_⟩
            rw [hW3]
            exact (Below.heap_alloc _ _ _ hz).trans HF2.out.2.rd
          rw [← hW3]
          clear hW3 hg3 z3 z4 z6 c3 c4 c6 hz HF2
          generalize W2.heap.size = pb at *
          refine cut6_any w rb pb s l n₀ J Jx X T hn ⟨ln, sa, fr, bo, at1⟩ pre 0 F G 0 0 W3 HP.out HF3.out.1 HF3.out.2 HX.out _ _ _ _ _ _ _ _ _ _ _ _ _ _ _ _ _ _ _ _ _ _ _ _ _ _ _ _ _ _ _ _ _ _ _ _ _ _ _ _ _ _ _ _ _ _ _ _ _ _ _ _ _ _ _ _ _ _ _ _ _ _ _ _ _ _ _ _ _ _ _ _ _ _ _ _ _ _ _ _ _ _ _ _ _ _ _ _ _ _ _ _ _ _ _ _ _ _ _ _ _ _ ?_
          clear HP HF3
          intro b W5 v74 v75 v76 v77 v78 v79 v80 v81 v82 v83 v84 v85 v86 v87 k1 k2 k3 k4
          have H5 : Hid (Below n₀ w W5 ∧ Rd W5 rb s (.func (.yield l) #[] #[]) ⟨ln, sa, fr, bo, at1⟩ (!b) ∧ (b = true → J (pre ++ [⟨ln, 0, F, G, 0, 0⟩]) W5) ∧ (b = false → Jx (pre ++ [⟨ln, 0, F, G, 0, 0⟩]) W5)) := ⟨k1, k2, k3, k4⟩
          have c4 := k2.c4
          have c5 := k2.c5
          have c6 := k2.c6
          have f4 := k2.fz 4
          have f5 := k2.fz 5
          simp only at c4 c5 c6
          clear k1 k2 k3 k4
          go_wp2
          go_region
          all_goals
            go_wp2
            go_end0
            have key : ∀ W6, W5.grownBy W6 (some rb) → Rd W6 rb s (.func (.yield l) #[] #[]) ⟨ln, sa, at1, at1, at1⟩ (!b) → (∃ v, Ending.returned (Value.tuple #[]) = Ending.returned v) ∧ Below n₀ w W6 ∧ ∃ st', (false = true → st' = true) ∧ Rs W6 rb s l J Jx X ⟨ln, sa, at1, at1, at1⟩ st' (pre ++ [⟨ln, 0, F, G, 0, 0⟩]) := fun W6 hg hr => by
              obtain ⟨k1, k2, k3, k4⟩ := H5.out
              have ka := Abd.of_grown k2 hg
              refine ⟨⟨_, rfl⟩, k1.trans (Below.of_grown' hg hn (by have := k2.lt; omega)), !b, (fun e => by cases e), hr, fun e => T.hJ _ _ _ (k3 (by simpa using e)) ka, fun e => ⟨_, HX.out, T.hJx _ _ _ (k4 (by simpa using e)) ka⟩⟩
            first
              | exact key _ (grown_drew (grown_set (grown_set (grown_refl _ _)))) ((H5.out.2.1.s4 at1).s5 at1)
              | exact key _ (grown_drew (grown_set (grown_set (grown_refl _ _)))) ((H5.out.2.1.s5 at1).s4 at1)
      · have hk1 : ((k : Int) == 0) = false := by simp; omega
        obtain ⟨B, hB⟩ : ∃ B, bo - sa = B := ⟨_, rfl⟩
        obtain ⟨D, hD⟩ : ∃ D, at0 - sa = D := ⟨_, rfl⟩
        have eB : (bo : Int) - (sa : Int) = (B : Int) := by omega
        have eD : (at0 : Int) - (sa : Int) = (D : Int) := by omega
        have hem : emitP k t ⟨ln, sa, fr, bo, at0⟩ = [⟨ln, k, F, G, B, D⟩] := by rw [emitP, if_neg (by rw [← ha1]; exact hfr), hF, hG, if_neg hk0, if_neg hk0, hB, hD]
        have hX' := hX rfl
        rw [hem] at hX'
        rw [hcs, hem]
        have HX : Hid ((pre ++ [(⟨ln, k, F, G, B, D⟩ : PR)]) <+: X) := hX'
        clear hcs hem h hs1 hg1 hR1 hb1 ha1 hX hX' hfr hF hG hB hD hk0
        go_enter Tryd.func14, Tryd.ntmps14
        go_wp2
        go_quiet (fail)
        go_wp2
        obtain ⟨W2, hW2⟩ : ∃ W2, W2 = (w.setCell ⟨rb, 6, none⟩ (.int .i64 at1)).drewN nq := ⟨_, rfl⟩
        have HF2 : Hid (Below n₀ w W2 ∧ Rs W2 rb s l J Jx X ⟨ln, sa, fr, bo, at1⟩ false pre) := by
          rw [hW2]
          exact ⟨below_drewN HF.out.1 _, HF.out.2.grown T (grown_drewN (grown_refl _ _)) (HF.out.2.rd.drewN _)⟩
        rw [← hW2]
        clear hW2 HF c7 c4 c6' c3 c6 f6
        have hz : rb < W2.heap.size := HF2.out.2.rd.lt
        have c3 := HF2.out.2.rd.c3
        have c4 := HF2.out.2.rd.c4
        have c6 := HF2.out.2.rd.c6
        simp only at c3 c4 c6
        have z3 : (W2.alloc (.cells #[.int .i64 0, .int .i64 0, .int .i64 0, .int .i64 0, .int .i64 0] 38)).cell? ⟨rb, 3, none⟩ = some (.int .i64 sa) := (cellAl _ _ _ hz).trans c3
        have z4 : (W2.alloc (.cells #[.int .i64 0, .int .i64 0, .int .i64 0, .int .i64 0, .int .i64 0] 38)).cell? ⟨rb, 4, none⟩ = some (.int .i64 fr) := (cellAl _ _ _ hz).trans c4
        have z6 : (W2.alloc (.cells #[.int .i64 0, .int .i64 0, .int .i64 0, .int .i64 0, .int .i64 0] 38)).cell? ⟨rb, 6, none⟩ = some (.int .i64 at1) := (cellAl _ _ _ hz).trans c6
        go_region
        all_goals
          go_wp2
          obtain ⟨W7, hW7⟩ : ∃ W7, W7 = (W2.alloc (.cells #[.int .i64 k, .int .i64 F, .int .i64 G, .int .i64 0, .int .i64 0] 38)).drew := ⟨_, rfl⟩
          have HP7 : Hid (W7.heap[W2.heap.size]? = some (.cells #[.int .i64 k, .int .i64 F, .int .i64 G, .int .i64 0, .int .i64 0] 38 (0, 0))) := by
            rw [hW7]
            exact World.alloc_heap_new W2 _
          have hg7 : W2.grownBy W7 (some rb) := by rw [hW7]; exact grown_drew (grown_al (grown_refl _ _) _)
          have HN7 : Hid (n₀ ≤ W2.heap.size ∧ W2.heap.size ≠ rb) := ⟨by omega, by omega⟩
          have HF7 : Hid (Below n₀ w W7 ∧ Rs W7 rb s l J Jx X ⟨ln, sa, fr, bo, at1⟩ false pre) := by
            refine ⟨HF2.out.1.trans (Below.of_grown' hg7 hn (by omega)), HF2.out.2.grown T hg7 ?_⟩
            rw [hW7]
            exact (Below.heap_alloc _ _ _ hz).trans HF2.out.2.rd
          have HA7 : Hid (∀ W8, W7.grownBy W8 (some W2.heap.size) → Abd W2 W8) := fun W8 hg8 => by
            have a1 := Abd.of_grown HF2.out.2.rd hg7
            exact ⟨hg8.os.trans a1.os, hg8.tape.trans a1.tape, hg8.output.trans a1.output, Nat.le_trans a1.size hg8.size, fun i o hi ho => (hg8.block i (Nat.lt_of_lt_of_le (heapLt hi) a1.size) (fun e => by have := heapLt hi; have := Option.some.inj e; omega)).trans (a1.block i o hi ho)⟩
          rw [← hW7]
          clear hW7 hg7 z3 z4 z6 c3 c4 c6 hz
          generalize W2.heap.size = pb at *
          have c3 := HF7.out.2.rd.c3
          have c5 := HF7.out.2.rd.c5
          simp only at c3 c5
          have q3 : W7.cell? ⟨pb, 3, none⟩ = some (.int .i64 0) := heap_cell HP7.out 3
          have q4 : W7.cell? ⟨pb, 4, none⟩ = some (.int .i64 0) := heap_cell HP7.out 4
          have g3 := heap_free HP7.out 3
          have g4 := heap_free HP7.out 4
          have hnp : pb ≠ rb := HN7.out.2
          go_region
          all_goals
            go_wp2
            obtain ⟨W3, hW3⟩ : ∃ W3, W3 = ((W7.setCell ⟨pb, 3, none⟩ (.int .i64 B)).setCell ⟨pb, 4, none⟩ (.int .i64 D)).drew := ⟨_, rfl⟩
            have hg3 : W7.grownBy W3 (some pb) := by rw [hW3]; exact grown_drew (grown_set (grown_set (grown_refl _ _)))
            have HP : Hid (W3.heap[pb]? = some (.cells #[.int .i64 k, .int .i64 F, .int .i64 G, .int .i64 B, .int .i64 D] 38 (0, 0))) := by
              rw [hW3]
              show ((W7.setCell ⟨pb, 3, none⟩ (.int .i64 B)).setCell ⟨pb, 4, none⟩ (.int .i64 D)).heap[pb]? = _
              rw [Joins.block_setCell (Joins.block_setCell HP7.out _)]
              rfl
            have HF3 : Hid (Below n₀ w W3 ∧ Rs W3 rb s l J Jx X ⟨ln, sa, fr, bo, at1⟩ false pre) := by
              refine ⟨HF7.out.1.trans (Below.of_grown' hg3 HN7.out.1 (by have := heapLt HP7.out; have := HN7.out.1; omega)), HF2.out.2.abd T (HA7.out W3 hg3) (HF7.out.2.rd.other hg3 (fun e => hnp (Option.some.inj e).symm))⟩
            rw [← hW3]
            clear hW3 hg3 HP7 HF7 HA7 HF2 HN7 hnp q3 q4 g3 g4 c3 c5
            refine cut6_any w rb pb s l n₀ J Jx X T hn ⟨ln, sa, fr, bo, at1⟩ pre k F G B D W3 HP.out HF3.out.1 HF3.out.2 HX.out _ _ _ _ _ _ _ _ _ _ _ _ _ _ _ _ _ _ _ _ _ _ _ _ _ _ _ _ _ _ _ _ _ _ _ _ _ _ _ _ _ _ _ _ _ _ _ _ _ _ _ _ _ _ _ _ _ _ _ _ _ _ _ _ _ _ _ _ _ _ _ _ _ _ _ _ _ _ _ _ _ _ _ _ _ _ _ _ _ _ _ _ _ _ _ _ _ _ _ _ _ _ ?_
            clear HP HF3
            intro b W5 v74 v75 v76 v77 v78 v79 v80 v81 v82 v83 v84 v85 v86 v87 k1 k2 k3 k4
            have H5 : Hid (Below n₀ w W5 ∧ Rd W5 rb s (.func (.yield l) #[] #[]) ⟨ln, sa, fr, bo, at1⟩ (!b) ∧ (b = true → J (pre ++ [⟨ln, k, F, G, B, D⟩]) W5) ∧ (b = false → Jx (pre ++ [⟨ln, k, F, G, B, D⟩]) W5)) := ⟨k1, k2, k3, k4⟩
            have c4 := k2.c4
            have c5 := k2.c5
            have c6 := k2.c6
            have f4 := k2.fz 4
            have f5 := k2.fz 5
            simp only at c4 c5 c6
            clear k1 k2 k3 k4
            go_wp2
            go_region
            all_goals
              go_wp2
              go_end0
              have key : ∀ W6, W5.grownBy W6 (some rb) → Rd W6 rb s (.func (.yield l) #[] #[]) ⟨ln, sa, at1, at1, at1⟩ (!b) → (∃ v, Ending.returned (Value.tuple #[]) = Ending.returned v) ∧ Below n₀ w W6 ∧ ∃ st', (false = true → st' = true) ∧ Rs W6 rb s l J Jx X ⟨ln, sa, at1, at1, at1⟩ st' (pre ++ [⟨ln, k, F, G, B, D⟩]) := fun W6 hg hr => by
                obtain ⟨k1, k2, k3, k4⟩ := H5.out
                have ka := Abd.of_grown k2 hg
                refine ⟨⟨_, rfl⟩, k1.trans (Below.of_grown' hg hn (by have := k2.lt; omega)), !b, (fun e => by cases e), hr, fun e => T.hJ _ _ _ (k3 (by simpa using e)) ka, fun e => ⟨_, HX.out, T.hJx _ _ _ (k4 (by simpa using e)) ka⟩⟩
              first
                | exact key _ (grown_drew (grown_set (grown_set (grown_refl _ _)))) ((H5.out.2.1.s4 at1).s5 at1)
                | exact key _ (grown_drew (grown_set (grown_set (grown_refl _ _)))) ((H5.out.2.1.s5 at1).s4 at1)
end Go.Proofs.YtkbinfhclaafhaaDoor
