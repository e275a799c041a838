import Derived.Test.YtkbinfhclaafhaaDoorPtPlain
import Derived.Shelf.Abstract
namespace Go.Proofs.YtkbinfhclaafhaaDoor
open Go.RowKit
attribute [local go_sem] Oper.semAt_some

/-! plain.Parts: the walk. -/
/-- The loop goes on behind pre. -/
def GoesOn (n : Int) (pre : List PR) : Prop := ¬ (1 ≤ n ∧ n ≤ pre.length) ∧ pre.length < 1000
def Stops (n : Int) (pre : List PR) : Prop := ((pre.length : Int) = n ∨ pre.length = 1000) ∧ 0 < pre.length
theorem alloc4 (w : World) (a b c d : Obj) : ((((w.alloc a).alloc b).alloc c).alloc d).heap[w.heap.size]? = some a ∧ ((((w.alloc a).alloc b).alloc c).alloc d).heap[w.heap.size + 1]? = some b ∧ ((((w.alloc a).alloc b).alloc c).alloc d).heap[w.heap.size + 2]? = some c ∧ ((((w.alloc a).alloc b).alloc c).alloc d).heap[w.heap.size + 3]? = some d := by
  have s1 : (w.alloc a).heap.size = w.heap.size + 1 := by simp
  have s2 : ((w.alloc a).alloc b).heap.size = w.heap.size + 2 := by simp
  have s3 : (((w.alloc a).alloc b).alloc c).heap.size = w.heap.size + 3 := by simp
  have n1 : (w.alloc a).heap[w.heap.size]? = some a := World.alloc_heap_new w a
  have n2 : ((w.alloc a).alloc b).heap[w.heap.size + 1]? = some b := by have := World.alloc_heap_new (w.alloc a) b; rw [s1] at this; exact this
  have n3 : (((w.alloc a).alloc b).alloc c).heap[w.heap.size + 2]? = some c := by have := World.alloc_heap_new ((w.alloc a).alloc b) c; rw [s2] at this; exact this
  have n4 : ((((w.alloc a).alloc b).alloc c).alloc d).heap[w.heap.size + 3]? = some d := by have := World.alloc_heap_new (((w.alloc a).alloc b).alloc c) d; rw [s3] at this; exact this
  exact ⟨(Below.heap_alloc _ _ _ (by omega)).trans ((Below.heap_alloc _ _ _ (by omega)).trans ((Below.heap_alloc _ _ _ (by omega)).trans n1)), (Below.heap_alloc _ _ _ (by omega)).trans ((Below.heap_alloc _ _ _ (by omega)).trans n2), (Below.heap_alloc _ _ _ (by omega)).trans n3, n4⟩
theorem abd_al (w : World) (o : Obj) : Abd w (w.alloc o) := ⟨rfl, rfl, rfl, by simp, fun k _ hk _ => (Below.heap_alloc w o k (heapLt hk)).trans hk⟩
theorem own_down {w : World} {base base' : Nat} {e : TypeId} {size : Nat} {v : Value} {n : Nat} {xs : List Value} (h : w.ownsRow base e size v n xs) (hb : base' ≤ base) : w.ownsRow base' e size v n xs := by
  refine ⟨h.1, ?_⟩
  rcases h.2 with h | ⟨g, cap, cur, rfl, h2, h3, h4⟩
  · exact .inl h
  · exact .inr ⟨g, cap, cur, rfl, by omega, h3, h4⟩
theorem kpt_trans {n : Nat} {A B C : World} (h : Kpt n A B) (k : Kpt n B C) : Kpt n A C := ⟨h.below.trans k.below, fun _ _ _ e => k.rd _ _ _ (h.rd _ _ _ e)⟩
theorem kpt_put {n : Nat} {W : World} {l : Nat} {o : Obj} (hl : n ≤ l) (ho : W.heap[l]? = some o) (hc : o.isCells = false) (o' : Obj) : Kpt n W (W.putObj l o') :=
  ⟨below_put (Below.refl _ _) hl o', fun i c fr e => by
    rw [putObj_other]
    · exact e
    · rintro rfl; rw [ho] at e; obtain rfl := Option.some.inj e; cases hc⟩
theorem same_abd {A B : World} (h : Abd A B) : Same A B := fun k o hk hc => h.block k o hk (fun c fr e => by subst e; cases hc)
theorem Tryd.infoIntP : (Tryd.prog.info? 3).map (fun i => (i.zero, i.size, i.bytes)) = some (some (.int .i64 0), 1, 8) := by kernel_rfl
theorem Tryd.infoPartP : (Tryd.prog.info? 38).map (fun i => (i.zero, i.size, i.bytes)) = some (some (.agg #[.int .i64 0, .int .i64 0, .int .i64 0, .int .i64 0, .int .i64 0]), 5, 40) := by kernel_rfl
set_option maxRecDepth 100000 in
set_option maxHeartbeats 4000000 in
theorem plainParts_any (w : World) (s : ByteArray) (n : Int) (env : PEnv w) (h20 : 6 ≤ w.heap.size) :
    Calls Tryd.prog 6 #[.string s, .int .i64 n] w fun e w' => ∃ v1 v2 l, e = .returned (.tuple #[v1, v2]) ∧ w'.ownsRow w.heap.size 3 1 v1 l.length (lineV l) ∧ w'.ownsRow w.heap.size 38 5 v2 l.length (partV l) ∧ Below w.heap.size w w' ∧ ((l = partsX s ∧ GoesOn n l) ∨ (l <+: partsX s ∧ Stops n l)) := by
  refine (callsIn_wide (n := 0)).1 (callsIn_of_wp_marks Tryd.func6 rfl trivial ?_ rfl)
  simp only [Tryd.ntmps6, List.size_toArray, List.length_cons, List.length_nil, Nat.reduceAdd, Nat.reduceSub, Array.replicate_succ, Array.replicate_zero, List.push_toArray, List.append_toArray, List.nil_append, List.cons_append]
  refine (wpIn_wide (n := 0)).2 ?_
  go_wp2_with fail
  refine (guardParts_any _ s).mono ?_
  rintro ev W1 ⟨rfl, rfl⟩
  go_wp2
  have hsz : (((((w.alloc (.cells #[.int .i64 n] 3)).alloc (.cells #[.slice none 0 0] 27)).alloc (.cells #[.slice none 0 0] 28)).alloc (.cells #[.string s] 9)).heap.size) = w.heap.size + 4 := by simp
  obtain ⟨W0, hW0⟩ : ∃ W0, W0 = ((((w.alloc (.cells #[.int .i64 n] 3)).alloc (.cells #[.slice none 0 0] 27)).alloc (.cells #[.slice none 0 0] 28)).alloc (.cells #[.string s] 9)) := ⟨_, rfl⟩
  rw [← hW0] at hsz ⊢
  have hb0 : Below w.heap.size w W0 := by rw [hW0]; exact ((((Below.refl _ _).alloc (Nat.le_refl _) _).alloc (by simp) _).alloc (by simp; omega) _).alloc (by simp; omega) _
  have hbox : W0.cell? ⟨w.heap.size + 3, 0, none⟩ = some (.string s) := by rw [hW0]; exact heap_cell (alloc4 w _ _ _ _).2.2.2 0
  have hI0 : PI w n [] W0 := by
    refine ⟨?_, ⟨.slice none 0 0, .slice none 0 0, ?_, ?_, World.ownsRow_nil _ _ _ _, World.ownsRow_nil _ _ _ _⟩, by omega⟩
    · rw [hW0]; exact (alloc4 w _ _ _ _).1
    · rw [hW0]; exact (alloc4 w _ _ _ _).2.1
    · rw [hW0]; exact (alloc4 w _ _ _ _).2.2.1
  clear hW0
  refine range_tellsB (gf := 10) (lb := #[.pointer (some ⟨w.heap.size + 3, 0, none⟩)]) ?_ (Go.Proofs.enters_of Tryd.func10 (by kernel_rfl) rfl) (n₀ := w.heap.size) (by omega) (parts1_tells W0 w.heap.size (w.heap.size + 3) s hbox (env.below h20 hb0) h20 (by omega)) (fun x => rfl)
    kpt_trans (fun W l o o' hl ho hc => kpt_put (by omega) ho hc o') (fun A B h => same_abd h)
    (fun pre W => PI w n pre W ∧ GoesOn n pre) (fun c pre W => c = .exit 0 ∧ PI w n pre W ∧ Stops n pre)
    (fun pre A B h ha => ⟨h.1.abd ha, h.2⟩) (fun c pre A B h ha => ⟨h.1, h.2.1.abd ha, h.2.2⟩)
    (fun pre W l o o' hl ho hc h => ⟨h.1.put (by omega) ho hc o', h.2⟩) (fun c pre W l o o' hl ho hc h => ⟨h.1, h.2.1.put (by omega) ho hc o', h.2.2⟩)
    ?h0 ?round ?done ?stop
  · rfl
  case h0 => exact fun o1 o2 => ⟨(hI0.abd (abd_al W0 o1)).abd (abd_al _ o2), by simp [GoesOn]; omega⟩
  case round =>
    rintro l pre ⟨xl, xk, xf, xt, xb, xe⟩ W hl ⟨hPI, hgo⟩ hx
    simp only [encP]
    gi_wp2
    refine ⟨fun k o hk _ => (Below.heap_alloc W _ k (heapLt hk)).trans hk, ⟨(Below.refl _ _).alloc (by have := hPI.sz; omega) _, fun k _ _ hk => (Below.heap_alloc W _ k (heapLt hk)).trans hk⟩, ?_⟩
    intro o o' ho hoc
    have hP2 := (hPI.abd (abd_al W (.cells #[.int .i64 xk, .int .i64 xf, .int .i64 xt, .int .i64 xb, .int .i64 xe] 38))).put (by omega) ho hoc o'
    have hpt : ((W.alloc (.cells #[.int .i64 xk, .int .i64 xf, .int .i64 xt, .int .i64 xb, .int .i64 xe] 38)).putObj l o').heap[W.heap.size]? = some (.cells #[.int .i64 xk, .int .i64 xf, .int .i64 xt, .int .i64 xb, .int .i64 xe] 38 (0, 0)) := by
      rw [putObj_other]
      · exact World.alloc_heap_new W _
      · rintro rfl
        rw [World.alloc_heap_new] at ho
        obtain rfl := Option.some.inj ho
        cases hoc
    have hpv : ∀ lv pv : Value, W.heap[w.heap.size + 2]? = some (.cells #[pv] 28 (0, 0)) → True := fun _ _ _ => trivial
    have hpsz := hPI.sz
    obtain ⟨lv, pv, k1, k2, k3, k4⟩ := hPI.rows
    have hpvb : ∀ k, pv.ownBlock = some k → k < W.heap.size := fun k hk => by obtain ⟨_, c, h1⟩ := own_block k4 hk; exact heapLt h1
    have a1 := abd_al W (.cells #[.int .i64 xk, .int .i64 xf, .int .i64 xt, .int .i64 xb, .int .i64 xe] 38)
    have p1 : ((W.alloc (.cells #[.int .i64 xk, .int .i64 xf, .int .i64 xt, .int .i64 xb, .int .i64 xe] 38)).putObj l o').heap[w.heap.size + 1]? = some (.cells #[lv] 27 (0, 0)) := (putObj_other (by omega)).trans (a1.block _ _ k1 (fun c fr e => by cases e))
    have p2 : ((W.alloc (.cells #[.int .i64 xk, .int .i64 xf, .int .i64 xt, .int .i64 xb, .int .i64 xe] 38)).putObj l o').heap[w.heap.size + 1 + 1]? = some (.cells #[pv] 28 (0, 0)) := (putObj_other (by omega)).trans (a1.block _ _ k2 (fun c fr e => by cases e))
    have p3 := ownsRow_put (ownsRow_abd k3 a1 (by decide)) ho hoc o'
    have p4 := ownsRow_put (ownsRow_abd k4 a1 (by decide)) ho hoc o'
    have hbn := hP2.bn
    have hsz2 := hP2.sz
    have hpb2 : W.heap.size < ((W.alloc (.cells #[.int .i64 xk, .int .i64 xf, .int .i64 xt, .int .i64 xb, .int .i64 xe] 38)).putObj l o').heap.size := heapLt hpt
    clear k1 k2 k3 k4 a1 hP2 hPI hpv ho hoc
    generalize (W.alloc (.cells #[.int .i64 xk, .int .i64 xf, .int .i64 xt, .int .i64 xb, .int .i64 xe] 38)).putObj l o' = W2 at *
    generalize W.heap.size = pb at *
    have hlen := hgo.2
    obtain ⟨i0, hi0, hz0, hz1, hz2⟩ := info_parts Tryd.infoIntP
    obtain ⟨i5, hi5, hy0, hy1, hy2⟩ := info_parts Tryd.infoPartP
    have c6 : W2.cell? ⟨w.heap.size + 1, 0, none⟩ = some lv := heap_cell p1 0
    have HX : Hid ((pre ++ [(⟨xl, xk, xf, xt, xb, xe⟩ : PR)]) <+: partsX s) := hx
    have HGo : Hid (GoesOn n pre) := hgo
    clear hx hgo hbox hb0 hI0 env hsz hl
    gi_wp2_with (gi_at_builtin; refine wpListIn_append_own _ rfl _ _ 27 rfl (w.heap.size + 4) 3 i0 _ 1 8 Tryd.underlying27 hi0 hz0 hz1 hz2 rfl (by decide) lv pre.length (lineV pre) rfl (p3.alloc _) ⟨W2.heap.size, 0, none⟩ 1 1 [.int .i64 xl] rfl rfl (cell_one_new _ _ _) (by simp [Value.oneCell']) (by unfold maxLen; omega) (by omega) (by simp; omega) ?_)
    intro v1 W3 o3 g3 _
    obtain ⟨ga, ca, rfl⟩ := ownsRow_succ o3
    have q3 : ∀ k o, k < W2.heap.size → W2.heap[k]? = some o → (∀ j, lv.ownBlock = some j → k ≠ j) → W3.heap[k]? = some o := fun k o hk ho hne => (g3.block k (by simp; omega) (fun e => hne k e.symm rfl)).trans ((Below.heap_alloc W2 _ k hk).trans ho)
    have lvb : ∀ j, lv.ownBlock = some j → w.heap.size + 4 ≤ j := fun j hj => (own_block p3 hj).1
    have b1 : W3.heap[w.heap.size + 1]? = some (.cells #[lv] 27 (0, 0)) := q3 _ _ (by omega) p1 (fun j hj => by have := lvb j hj; omega)
    have b2 : W3.heap[w.heap.size + 1 + 1]? = some (.cells #[pv] 28 (0, 0)) := q3 _ _ (by omega) p2 (fun j hj => by have := lvb j hj; omega)
    have b0 : W3.heap[w.heap.size]? = some (.cells #[.int .i64 n] 3 (0, 0)) := q3 _ _ (by omega) hbn (fun j hj => by have := lvb j hj; omega)
    have bp : W3.heap[pb]? = some (.cells #[.int .i64 xk, .int .i64 xf, .int .i64 xt, .int .i64 xb, .int .i64 xe] 38 (0, 0)) := q3 _ _ hpb2 hpt (fun j hj e => by
      subst e
      obtain ⟨_, c, h1⟩ := own_block p3 hj
      rw [hpt] at h1
      cases h1)
    have o4 := own_grownP (p4.alloc (.cells #[.int .i64 xl] 3)) g3 (own_apart p4 p3 (by decide))
    have K3 : Kb w.heap.size W2 W3 := ((Kb.refl _ _).al (by omega) _).grown g3 (by simp; omega) (fun k hk => by
      obtain ⟨h1, c, h2⟩ := own_block (p3.alloc (.cells #[.int .i64 xl] 3)) hk
      exact ⟨by omega, c, _, _, h2, .inl rfl⟩)
    have hs3 : w.heap.size + 4 ≤ W3.heap.size := by have := g3.size; simp at this; omega
    have c6' : W3.cell? ⟨w.heap.size + 1, 0, none⟩ = some lv := heap_cell b1 0
    have f6' : W3.frozen? ⟨w.heap.size + 1, 0, none⟩ = false := heap_free b1 0
    have g4 : W3.grownBy (W3.setCell ⟨w.heap.size + 1, 0, none⟩ (.slice (some ⟨ga, 0, none⟩) (pre.length + 1) ca)) (some (w.heap.size + 1)) := setc_grown _ _ _ _
    have K4 : Kb w.heap.size W2 (W3.setCell ⟨w.heap.size + 1, 0, none⟩ (.slice (some ⟨ga, 0, none⟩) (pre.length + 1) ca)) := K3.grown g4 (by omega) (fun k hk => by obtain rfl := Option.some.inj hk; exact ⟨by omega, _, _, _, b1, .inr (.inl rfl)⟩)
    have e1 : (W3.setCell ⟨w.heap.size + 1, 0, none⟩ (.slice (some ⟨ga, 0, none⟩) (pre.length + 1) ca)).heap[w.heap.size + 1]? = some (.cells #[.slice (some ⟨ga, 0, none⟩) (pre.length + 1) ca] 27 (0, 0)) := by rw [Joins.block_setCell b1]; rfl
    have e2 : (W3.setCell ⟨w.heap.size + 1, 0, none⟩ (.slice (some ⟨ga, 0, none⟩) (pre.length + 1) ca)).heap[w.heap.size + 1 + 1]? = some (.cells #[pv] 28 (0, 0)) := (g4.block _ (by omega) (fun e => by have := Option.some.inj e; omega)).trans b2
    have e0 : (W3.setCell ⟨w.heap.size + 1, 0, none⟩ (.slice (some ⟨ga, 0, none⟩) (pre.length + 1) ca)).heap[w.heap.size]? = some (.cells #[.int .i64 n] 3 (0, 0)) := (g4.block _ (by omega) (fun e => by have := Option.some.inj e; omega)).trans b0
    have ep : (W3.setCell ⟨w.heap.size + 1, 0, none⟩ (.slice (some ⟨ga, 0, none⟩) (pre.length + 1) ca)).heap[pb]? = some (.cells #[.int .i64 xk, .int .i64 xf, .int .i64 xt, .int .i64 xb, .int .i64 xe] 38 (0, 0)) := (g4.block _ (heapLt bp) (fun e => by have := Option.some.inj e; omega)).trans bp
    have r3 := own_grownP o3 g4 (fun k hk e => by have := (own_block o3 hk).1; have := Option.some.inj e; omega)
    have r4 := own_grownP o4 g4 (fun k hk e => by have := (own_block o4 hk).1; have := Option.some.inj e; omega)
    have s4 : (W3.setCell ⟨w.heap.size + 1, 0, none⟩ (.slice (some ⟨ga, 0, none⟩) (pre.length + 1) ca)).heap.size = W3.heap.size := by simp
    have c7 : (W3.setCell ⟨w.heap.size + 1, 0, none⟩ (.slice (some ⟨ga, 0, none⟩) (pre.length + 1) ca)).cell? ⟨w.heap.size + 1 + 1, 0, none⟩ = some pv := heap_cell e2 0
    have d0 : (W3.setCell ⟨w.heap.size + 1, 0, none⟩ (.slice (some ⟨ga, 0, none⟩) (pre.length + 1) ca)).cell? ⟨pb, 0, none⟩ = some (.int .i64 xk) := heap_cell ep 0
    have d1 : (W3.setCell ⟨w.heap.size + 1, 0, none⟩ (.slice (some ⟨ga, 0, none⟩) (pre.length + 1) ca)).cell? ⟨pb, 1, none⟩ = some (.int .i64 xf) := heap_cell ep 1
    have d2 : (W3.setCell ⟨w.heap.size + 1, 0, none⟩ (.slice (some ⟨ga, 0, none⟩) (pre.length + 1) ca)).cell? ⟨pb, 2, none⟩ = some (.int .i64 xt) := heap_cell ep 2
    have d3 : (W3.setCell ⟨w.heap.size + 1, 0, none⟩ (.slice (some ⟨ga, 0, none⟩) (pre.length + 1) ca)).cell? ⟨pb, 3, none⟩ = some (.int .i64 xb) := heap_cell ep 3
    have d4 : (W3.setCell ⟨w.heap.size + 1, 0, none⟩ (.slice (some ⟨ga, 0, none⟩) (pre.length + 1) ca)).cell? ⟨pb, 4, none⟩ = some (.int .i64 xe) := heap_cell ep 4
    have nw := part_news (W3.setCell ⟨w.heap.size + 1, 0, none⟩ (.slice (some ⟨ga, 0, none⟩) (pre.length + 1) ca)) (.int .i64 xk) (.int .i64 xf) (.int .i64 xt) (.int .i64 xb) (.int .i64 xe) 38
    rw [s4] at nw
    gi_wp2_with (gi_at_builtin; refine wpListIn_append_own _ rfl _ _ 28 rfl (w.heap.size + 4) 38 i5 _ 5 40 Tryd.underlying28 hi5 hy0 hy1 hy2 rfl (by decide) pv pre.length (partV pre) rfl (r4.alloc _) ⟨W3.heap.size, 0, none⟩ 1 1 (partC ⟨xl, xk, xf, xt, xb, xe⟩) rfl rfl nw (by simp [partC, Value.oneCell']) (by unfold maxLen; omega) (by omega) (by simp; omega) ?_)
    intro v2 W5 o5 g5 _
    obtain ⟨gb, cb, rfl⟩ := ownsRow_succ o5
    have pvb : ∀ j, pv.ownBlock = some j → w.heap.size + 4 ≤ j := fun j hj => (own_block r4 hj).1
    have q5 : ∀ k o, k < w.heap.size + 4 → (W3.setCell ⟨w.heap.size + 1, 0, none⟩ (.slice (some ⟨ga, 0, none⟩) (pre.length + 1) ca)).heap[k]? = some o → W5.heap[k]? = some o := fun k o hk ho => (g5.block k (by simp; omega) (fun e => by have := pvb k e.symm; omega)).trans ((Below.heap_alloc _ _ k (by rw [s4]; omega)).trans ho)
    have t1 := q5 _ _ (by omega) e1
    have t2 := q5 _ _ (by omega) e2
    have t0 := q5 _ _ (by omega) e0
    have u3 := own_grownP (r3.alloc (.cells #[.int .i64 xk, .int .i64 xf, .int .i64 xt, .int .i64 xb, .int .i64 xe] 38)) g5 (own_apart r3 r4 (by decide))
    have K5 : Kb w.heap.size W2 W5 := (K4.al (by rw [s4]; omega) (.cells #[.int .i64 xk, .int .i64 xf, .int .i64 xt, .int .i64 xb, .int .i64 xe] 38)).grown g5 (by simp; omega) (fun k hk => by
      obtain ⟨h1, c, h2⟩ := own_block (r4.alloc (.cells #[.int .i64 xk, .int .i64 xf, .int .i64 xt, .int .i64 xb, .int .i64 xe] 38)) hk
      exact ⟨by omega, c, _, _, h2, .inr (.inr (.inl rfl))⟩)
    have hs5 : w.heap.size + 4 ≤ W5.heap.size := by have := g5.size; simp at this; omega
    have c7' : W5.cell? ⟨w.heap.size + 1 + 1, 0, none⟩ = some pv := heap_cell t2 0
    have f7' : W5.frozen? ⟨w.heap.size + 1 + 1, 0, none⟩ = false := heap_free t2 0
    have g6 : W5.grownBy (W5.setCell ⟨w.heap.size + 1 + 1, 0, none⟩ (.slice (some ⟨gb, 0, none⟩) (pre.length + 1) cb)) (some (w.heap.size + 1 + 1)) := setc_grown _ _ _ _
    have K6 : Kb w.heap.size W2 (W5.setCell ⟨w.heap.size + 1 + 1, 0, none⟩ (.slice (some ⟨gb, 0, none⟩) (pre.length + 1) cb)) := K5.grown g6 (by omega) (fun k hk => by obtain rfl := Option.some.inj hk; exact ⟨by omega, _, _, _, t2, .inr (.inr (.inr rfl))⟩)
    have x1 : (W5.setCell ⟨w.heap.size + 1 + 1, 0, none⟩ (.slice (some ⟨gb, 0, none⟩) (pre.length + 1) cb)).heap[w.heap.size + 1]? = some (.cells #[.slice (some ⟨ga, 0, none⟩) (pre.length + 1) ca] 27 (0, 0)) := (g6.block _ (by omega) (fun e => by have := Option.some.inj e; omega)).trans t1
    have x2 : (W5.setCell ⟨w.heap.size + 1 + 1, 0, none⟩ (.slice (some ⟨gb, 0, none⟩) (pre.length + 1) cb)).heap[w.heap.size + 1 + 1]? = some (.cells #[.slice (some ⟨gb, 0, none⟩) (pre.length + 1) cb] 28 (0, 0)) := by rw [Joins.block_setCell t2]; rfl
    have x0 : (W5.setCell ⟨w.heap.size + 1 + 1, 0, none⟩ (.slice (some ⟨gb, 0, none⟩) (pre.length + 1) cb)).heap[w.heap.size]? = some (.cells #[.int .i64 n] 3 (0, 0)) := (g6.block _ (by omega) (fun e => by have := Option.some.inj e; omega)).trans t0
    have z3 := own_grownP u3 g6 (fun k hk e => by have := (own_block u3 hk).1; have := Option.some.inj e; omega)
    have z5 := own_grownP o5 g6 (fun k hk e => by have := (own_block o5 hk).1; have := Option.some.inj e; omega)
    have hPI6 : PI w n (pre ++ [⟨xl, xk, xf, xt, xb, xe⟩]) (W5.setCell ⟨w.heap.size + 1 + 1, 0, none⟩ (.slice (some ⟨gb, 0, none⟩) (pre.length + 1) cb)) := by
      refine ⟨x0, ⟨_, _, x1, x2, ?_, ?_⟩, by have := g6.size; omega⟩
      · rw [lineV_snoc, List.length_append]; exact z3
      · rw [partV_snoc, List.length_append]; exact z5
    have HF : Hid (Kb w.heap.size W2 (W5.setCell ⟨w.heap.size + 1 + 1, 0, none⟩ (.slice (some ⟨gb, 0, none⟩) (pre.length + 1) cb)) ∧ PI w n (pre ++ [⟨xl, xk, xf, xt, xb, xe⟩]) (W5.setCell ⟨w.heap.size + 1 + 1, 0, none⟩ (.slice (some ⟨gb, 0, none⟩) (pre.length + 1) cb))) := ⟨K6, hPI6⟩
    have k7 : (W5.setCell ⟨w.heap.size + 1 + 1, 0, none⟩ (.slice (some ⟨gb, 0, none⟩) (pre.length + 1) cb)).cell? ⟨w.heap.size + 1 + 1, 0, none⟩ = some (.slice (some ⟨gb, 0, none⟩) (pre.length + 1) cb) := heap_cell x2 0
    have k0 : (W5.setCell ⟨w.heap.size + 1 + 1, 0, none⟩ (.slice (some ⟨gb, 0, none⟩) (pre.length + 1) cb)).cell? ⟨w.heap.size, 0, none⟩ = some (.int .i64 n) := heap_cell x0 0
    clear K6 hPI6 z3 z5 x0 x1 x2 u3 K5 t0 t1 t2 q5 pvb o5 g5 r3 r4 e0 e1 e2 ep g4 K4 nw s4 d0 d1 d2 d3 d4 c7 c6' f6' K3 o4 o3 g3 b0 b1 b2 bp lvb q3 c6 p1 p2 p3 p4 hbn hpt hpvb hsz2 hpb2 hs3 hs5 hpsz g6
    by_cases hst : ((pre.length : Int) + 1 = n ∨ pre.length + 1 = 1000)
    · have HS : Hid (Stops n (pre ++ [⟨xl, xk, xf, xt, xb, xe⟩])) := by
        refine ⟨?_, by simp⟩
        rw [List.length_append]
        rcases hst with h | h
        · left; simp; omega
        · right; simp; omega
      by_cases h1 : (pre.length : Int) + 1 = n
      · have r1 : ((pre.length : Int) + 1 == n) = true := by simpa using h1
        clear h1 hst
        gi_wp2
        exact ⟨HF.out.1.same, HF.out.1.kpt, rfl, HF.out.2, HS.out⟩
      · have r1 : ((pre.length : Int) + 1 == n) = false := by simpa using h1
        have r2 : ((pre.length : Int) + 1 == 1000) = true := by rw [beq_iff_eq]; rcases hst with h | h <;> omega
        clear h1 hst
        gi_wp2
        exact ⟨HF.out.1.same, HF.out.1.kpt, rfl, HF.out.2, HS.out⟩
    · have HS : Hid (GoesOn n (pre ++ [⟨xl, xk, xf, xt, xb, xe⟩])) := by
        obtain ⟨h1, h2⟩ := HGo.out
        refine ⟨?_, ?_⟩
        · rintro ⟨h3, h4⟩
          rw [List.length_append] at h4
          simp at h4
          exact h1 ⟨h3, by omega⟩
        · rw [List.length_append]; simp; omega
      have r1 : ((pre.length : Int) + 1 == n) = false := by simp; omega
      have r2 : ((pre.length : Int) + 1 == 1000) = false := by simp; omega
      clear hst
      gi_wp2
      exact ⟨HF.out.1.same, HF.out.1.kpt, HF.out.2, HS.out⟩
  case done =>
    rintro D W hD hbW ⟨hP, hgo⟩ hK
    obtain ⟨lv, pv, k1, k2, k3, k4⟩ := hP.rows
    have c6 : W.cell? ⟨w.heap.size + 1, 0, none⟩ = some lv := heap_cell k1 0
    have c7 : W.cell? ⟨w.heap.size + 1 + 1, 0, none⟩ = some pv := heap_cell k2 0
    have HF : Hid (Below w.heap.size w W ∧ W.ownsRow (w.heap.size + 4) 3 1 lv (partsX s).length (lineV (partsX s)) ∧ W.ownsRow (w.heap.size + 4) 38 5 pv (partsX s).length (partV (partsX s)) ∧ GoesOn n (partsX s)) := ⟨hb0.trans hbW, k3, k4, hgo⟩
    have HK : Hid (W.heap[D]? = some (.deferred (some []))) := hK
    have HD : Hid (w.heap.size ≤ D) := by show _ ≤ _; omega
    clear k1 k2 k3 k4 hP hgo hbW hK hD hb0 hbox hI0 env hsz
    simp only
    go_wp2
    go_region
    all_goals
      go_wp2
      have hK : W.drew.heap[D]? = some (.deferred (some [])) := HK.out
      obtain ⟨h1, h2, h3, h4⟩ := HF.out
      refine ⟨by simp, .inl ⟨_, _, rfl, run_takeDeferred hK, ?_⟩⟩
      refine ⟨.tuple #[lv, pv], by simp [results, Tryd.results6, go_sem], lv, pv, partsX s, rfl, ?_, ?_, ?_, .inl ⟨rfl, h4⟩⟩
      · exact ownsRow_put (w := W.drew) (own_down h2 (by omega)) hK rfl _
      · exact ownsRow_put (w := W.drew) (own_down h3 (by omega)) hK rfl _
      · exact below_put (W := W.drew) h1.drew HD.out _
  case stop =>
    rintro D c pre W hD hbW hp ⟨rfl, hP, hst⟩ hK
    obtain ⟨lv, pv, k1, k2, k3, k4⟩ := hP.rows
    have c6 : W.cell? ⟨w.heap.size + 1, 0, none⟩ = some lv := heap_cell k1 0
    have c7 : W.cell? ⟨w.heap.size + 1 + 1, 0, none⟩ = some pv := heap_cell k2 0
    have HF : Hid (Below w.heap.size w W ∧ W.ownsRow (w.heap.size + 4) 3 1 lv pre.length (lineV pre) ∧ W.ownsRow (w.heap.size + 4) 38 5 pv pre.length (partV pre) ∧ pre <+: partsX s ∧ Stops n pre) := ⟨hb0.trans hbW, k3, k4, hp, hst⟩
    have HK : Hid (W.heap[D]? = some (.deferred (some []))) := hK
    have HD : Hid (w.heap.size ≤ D) := by show _ ≤ _; omega
    clear k1 k2 k3 k4 hP hst hbW hK hD hb0 hbox hI0 env hsz hp
    go_wp2
    go_region
    all_goals
      go_wp2
      have hK : W.drew.heap[D]? = some (.deferred (some [])) := HK.out
      obtain ⟨h1, h2, h3, h4⟩ := HF.out
      refine ⟨by simp, .inl ⟨_, _, rfl, run_takeDeferred hK, ?_⟩⟩
      refine ⟨.tuple #[lv, pv], by simp [results, Tryd.results6, go_sem], lv, pv, pre, rfl, ?_, ?_, ?_, .inr h4⟩
      · exact ownsRow_put (w := W.drew) (own_down h2 (by omega)) hK rfl _
      · exact ownsRow_put (w := W.drew) (own_down h3 (by omega)) hK rfl _
      · exact below_put (W := W.drew) h1.drew HD.out _
end Go.Proofs.YtkbinfhclaafhaaDoor
