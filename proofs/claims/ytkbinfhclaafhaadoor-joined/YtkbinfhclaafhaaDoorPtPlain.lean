import Derived.Test.YtkbinfhclaafhaaDoorPtGuard
import Derived.Test.YtkbinfhclaafhaaDoorKeep
import Derived.RangeFuncBox
import Derived.Maps.AppendAt
import Derived.LoopNIn
namespace Go.Proofs.YtkbinfhclaafhaaDoor
open Go.RowKit
attribute [local go_sem] Oper.semAt_some

/-! plain.Parts. -/
def lineV (l : List PR) : List Value := l.map fun x => .int .i64 x.line
def partC (x : PR) : List Value := [.int .i64 x.kind, .int .i64 x.from_, .int .i64 x.to_, .int .i64 x.body, .int .i64 x.end_]
def partV (l : List PR) : List Value := l.flatMap partC
theorem lineV_snoc (l : List PR) (x : PR) : lineV (l ++ [x]) = lineV l ++ [.int .i64 x.line] := by simp [lineV]
theorem partV_snoc (l : List PR) (x : PR) : partV (l ++ [x]) = partV l ++ partC x := by simp [partV]
theorem ownsRow_abd {w w' : World} {base : Nat} {e : TypeId} {size : Nat} {v : Value} {n : Nat} {xs : List Value} (h : w.ownsRow base e size v n xs) (ha : Abd w w') (he : e ≠ 44) : w'.ownsRow base e size v n xs := by
  refine ⟨h.1, ?_⟩
  rcases h.2 with h | ⟨g, cap, cur, rfl, h2, h3, h4⟩
  · exact .inl h
  · exact .inr ⟨g, cap, cur, rfl, h2, ha.block g _ h3 (fun c fr ec => by injection ec with _ e2 _; exact he e2), h4⟩
theorem ownsRow_put {w : World} {base : Nat} {e : TypeId} {size : Nat} {v : Value} {n : Nat} {xs : List Value} (h : w.ownsRow base e size v n xs) {l : Nat} {o : Obj} (hl : w.heap[l]? = some o) (hc : o.isCells = false) (o' : Obj) : (w.putObj l o').ownsRow base e size v n xs := by
  refine ⟨h.1, ?_⟩
  rcases h.2 with h | ⟨g, cap, cur, rfl, h2, h3, h4⟩
  · exact .inl h
  · refine .inr ⟨g, cap, cur, rfl, h2, ?_, h4⟩
    rw [putObj_other]
    · exact h3
    · rintro rfl
      rw [hl] at h3
      obtain rfl := Option.some.inj h3
      cases hc
theorem below_put {B : Nat} {w W : World} (h : Below B w W) {l : Nat} (hl : B ≤ l) (o' : Obj) : Below B w (W.putObj l o') :=
  h.trans ⟨rfl, rfl, rfl, by simp [World.putObj], fun k hk => putObj_other (by omega)⟩
/-- What the loop's variables hold. -/
structure PI (w : World) (n : Int) (pre : List PR) (W : World) : Prop where
  bn : W.heap[w.heap.size]? = some (.cells #[.int .i64 n] 3 (0, 0))
  rows : ∃ lv pv, W.heap[w.heap.size + 1]? = some (.cells #[lv] 27 (0, 0)) ∧ W.heap[w.heap.size + 2]? = some (.cells #[pv] 28 (0, 0)) ∧ W.ownsRow (w.heap.size + 4) 3 1 lv pre.length (lineV pre) ∧ W.ownsRow (w.heap.size + 4) 38 5 pv pre.length (partV pre)
  sz : w.heap.size + 4 ≤ W.heap.size
theorem PI.abd {w : World} {n : Int} {pre : List PR} {A B : World} (h : PI w n pre A) (ha : Abd A B) : PI w n pre B := by
  obtain ⟨lv, pv, h1, h2, h3, h4⟩ := h.rows
  exact ⟨ha.block _ _ h.bn (fun c fr e => by cases e), ⟨lv, pv, ha.block _ _ h1 (fun c fr e => by cases e), ha.block _ _ h2 (fun c fr e => by cases e), ownsRow_abd h3 ha (by decide), ownsRow_abd h4 ha (by decide)⟩, Nat.le_trans h.sz ha.size⟩
theorem PI.put {w : World} {n : Int} {pre : List PR} {W : World} (h : PI w n pre W) {l : Nat} {o : Obj} (hl : w.heap.size + 4 ≤ l) (ho : W.heap[l]? = some o) (hc : o.isCells = false) (o' : Obj) : PI w n pre (W.putObj l o') := by
  obtain ⟨lv, pv, h1, h2, h3, h4⟩ := h.rows
  exact ⟨(putObj_other (by omega)).trans h.bn, ⟨lv, pv, (putObj_other (by omega)).trans h1, (putObj_other (by omega)).trans h2, ownsRow_put h3 ho hc o', ownsRow_put h4 ho hc o'⟩, by simp [World.putObj]; exact h.sz⟩
/-- The loop's own types. -/
def ownT (t : TypeId) : Prop := t = 3 ∨ t = 27 ∨ t = 38 ∨ t = 28
/-- What a round's body does: new blocks, and blocks of its own types from B on. -/
structure Kb (B : Nat) (A C : World) : Prop where
  below : Below B A C
  keep : ∀ (k : Nat) (o : Obj), A.heap[k]? = some o → (∀ c t fr, o = Obj.cells c t fr → ¬ ownT t) → C.heap[k]? = some o
theorem Kb.refl (B : Nat) (A : World) : Kb B A A := ⟨Below.refl _ _, fun _ _ h _ => h⟩
theorem Kb.trans {B : Nat} {A C D : World} (h : Kb B A C) (k : Kb B C D) : Kb B A D := ⟨h.below.trans k.below, fun i o hi ho => k.keep i o (h.keep i o hi ho) ho⟩
theorem Kb.al {B : Nat} {A C : World} (h : Kb B A C) (hB : B ≤ C.heap.size) (o : Obj) : Kb B A (C.alloc o) := h.trans ⟨(Below.refl _ _).alloc hB o, fun k _ hk _ => (Below.heap_alloc C o k (heapLt hk)).trans hk⟩
theorem Kb.grown {B : Nat} {A C D : World} {r : Option Nat} (h : Kb B A C) (hg : C.grownBy D r) (hB : B ≤ C.heap.size) (hr : ∀ k, r = some k → B ≤ k ∧ ∃ c t fr, C.heap[k]? = some (Obj.cells c t fr) ∧ ownT t) : Kb B A D := by
  refine h.trans ⟨(Below.refl _ _).grown hg hB (fun k e => (hr k e).1), fun k o hk ho => ?_⟩
  refine (hg.block k (heapLt hk) ?_).trans hk
  intro e
  obtain ⟨_, c, t, fr, h1, h2⟩ := hr k e.symm
  rw [h1] at hk
  exact ho c t fr (Option.some.inj hk).symm h2
theorem Kb.same {B : Nat} {A C : World} (h : Kb B A C) : Same A C := fun k o hk hc => h.keep k o hk (fun c t fr e => by subst e; cases hc)
theorem Kb.kpt {B : Nat} {A C : World} (h : Kb B A C) : Kpt B A C := ⟨h.below, fun k c fr hk => h.keep k _ hk (fun c' t fr' e => by injection e with _ e2 _; subst e2; unfold ownT; decide)⟩
theorem own_block {w : World} {base : Nat} {e : TypeId} {size : Nat} {v : Value} {n : Nat} {xs : List Value} (h : w.ownsRow base e size v n xs) {k : Nat} (hk : v.ownBlock = some k) : base ≤ k ∧ ∃ c, w.heap[k]? = some (Obj.cells c e (0, 0)) := by
  rcases h.2 with ⟨rfl, _⟩ | ⟨g, cap, cur, rfl, h2, h3, h4⟩
  · simp [Value.ownBlock] at hk
  · simp only [Value.ownBlock] at hk
    obtain rfl := Option.some.inj hk
    exact ⟨h2, _, h3⟩
theorem own_grownP {w w' : World} {base : Nat} {e : TypeId} {size : Nat} {v : Value} {n : Nat} {xs : List Value} {r : Option Nat} (h : w.ownsRow base e size v n xs) (hg : w.grownBy w' r) (hne : ∀ k, v.ownBlock = some k → some k ≠ r) : w'.ownsRow base e size v n xs :=
  ownsRow_blocks h fun k _ hk ho => (hg.block k (heapLt ho) (hne k hk)).trans ho
theorem own_apart {w : World} {base base' : Nat} {e e' : TypeId} {size size' : Nat} {v v' : Value} {n n' : Nat} {xs xs' : List Value} (h : w.ownsRow base e size v n xs) (h' : w.ownsRow base' e' size' v' n' xs') (he : e ≠ e') : ∀ k, v.ownBlock = some k → some k ≠ v'.ownBlock := by
  intro k hk e
  obtain ⟨_, c, h1⟩ := own_block h hk
  obtain ⟨_, c', h2⟩ := own_block h' e.symm
  rw [h1] at h2
  injection h2 with h2
  injection h2 with _ h2 _
  exact he h2
theorem part_news (w : World) (a b c d e : Value) (t : TypeId) : ∀ j u, [a, b, c, d, e][j]? = some u → (w.alloc (.cells #[a, b, c, d, e] t)).cell? ((⟨w.heap.size, 0, none⟩ : Addr).add j) = some u := by
  intro j u hj
  have key := fun i => heap_cell (World.alloc_heap_new w (.cells #[a, b, c, d, e] t)) i
  match j, hj with
  | 0, hj => exact (key 0).trans hj
  | 1, hj => exact (key 1).trans hj
  | 2, hj => exact (key 2).trans hj
  | 3, hj => exact (key 3).trans hj
  | 4, hj => exact (key 4).trans hj
  | j + 5, hj => simp at hj
end Go.Proofs.YtkbinfhclaafhaaDoor
