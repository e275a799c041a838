import Derived.Test.YtkbinfhclaafhaaDoorRfLaw
namespace Go.Proofs.YtkbinfhclaafhaaDoor
open Go.RowKit

/-! As RfLaw, with what lies below. -/
def TellsB {α : Type} (n₀ : Nat) (P : Program) (gf : Nat) (lb : Array Value) (encs : α → Array Value) (Kp Ab : World → World → Prop) (X : List α) (w0 : World) : Prop :=
  ∀ (l : Nat) (J Jx : List α → World → Prop) (W : World), Below w0.heap.size w0 W → (∀ pre A B, J pre A → Ab A B → J pre B) → (∀ pre A B, Jx pre A → Ab A B → Jx pre B) →
    (∀ pre x W1, J pre W1 → (pre ++ [x]) <+: X → YieldAt Fence.wide 0 P l (encs x) W1 fun e W' => (e = .returned (.bool true) ∧ J (pre ++ [x]) W' ∧ Kp W1 W') ∨ (e = .returned (.bool false) ∧ Jx (pre ++ [x]) W' ∧ Kp W1 W')) →
    J [] W → Calls P gf (#[.func (.yield l) #[] #[]] ++ lb) W fun e W' => (∃ v, e = .returned v) ∧ Below n₀ W W' ∧ (J X W' ∨ ∃ pre, pre <+: X ∧ Jx pre W')
theorem range_tellsB {α : Type} {P : Program} {g : Operand} {ps : Array Tmp} {assign body : Code} {Q : Exit → Act → World → Prop} {a : Act} {w : World} {gf : Nat} {lb : Array Value} (hg : a.eval g = .func (.func gf) #[] lb) (eg : ∀ args w, (callFunc gf args).run P w = .ok (.enter gf args) w)
    {encs : α → Array Value} {Kp Ab : World → World → Prop} {X : List α} {n₀ : Nat} (hn0 : n₀ ≤ w.heap.size) (hseq : TellsB n₀ P gf lb encs Kp Ab X w) (hps : ∀ x, (encs x).size = ps.size)
    (hKt : ∀ {A B C : World}, Kp A B → Kp B C → Kp A C) (hKp : ∀ (W : World) (l : Nat) (o o' : Obj), w.heap.size ≤ l → W.heap[l]? = some o → o.isCells = false → Kp W (W.putObj l o')) (hAb : ∀ A B, Ab A B → Same A B)
    (I : List α → World → Prop) (Ix : Code → List α → World → Prop) (hI : ∀ pre A B, I pre A → Ab A B → I pre B) (hIx : ∀ c pre A B, Ix c pre A → Ab A B → Ix c pre B)
    (hIp : ∀ pre (W : World) (l : Nat) (o o' : Obj), w.heap.size ≤ l → W.heap[l]? = some o → o.isCells = false → I pre W → I pre (W.putObj l o'))
    (hIxp : ∀ c pre (W : World) (l : Nat) (o o' : Obj), w.heap.size ≤ l → W.heap[l]? = some o → o.isCells = false → Ix c pre W → Ix c pre (W.putObj l o'))
    (h0 : ∀ o1 o2, I [] ((w.alloc o1).alloc o2))
    (hround : ∀ (l : Nat) (pre : List α) (x : α) (W : World), w.heap.size ≤ l → I pre W → (pre ++ [x]) <+: X →
      assign.wpIn (Fence.wide.inRound l) 0 P (Exit.then (fun a₁ W₁ => Same W W₁ ∧ Kp W W₁ ∧ ∀ o o', W₁.heap[l]? = some o → o.isCells = false → body.wpIn (Fence.wide.inRound l) 0 P (postT Kp I Ix (pre ++ [x]) (W₁.putObj l o')) a₁ (W₁.putObj l o')) (fun _ _ _ => False))
        { tmps := (ps.zip (encs x)).foldl (fun t (p, v) => t.setIfInBounds p v) a.tmps, defers := [] } W)
    (hdone : ∀ (D : Nat) (W : World), w.heap.size ≤ D → Below n₀ w W → I X W → W.heap[D]? = some (.deferred (some [])) → Q .normal { a with defers := { target := .collected D, args := #[] } :: a.defers } W)
    (hstop : ∀ (D : Nat) (c : Code) (pre : List α) (W : World), w.heap.size ≤ D → Below n₀ w W → pre <+: X → Ix c pre W → W.heap[D]? = some (.deferred (some [])) → c.wp P Q { a with defers := { target := .collected D, args := #[] } :: a.defers } W) :
    (Code.rangeFunc g ps assign body).wp P Q a w := by
  refine (wpIn_wide (n := 0)).1 (wpIn_rangeFunc fun fn _ => ?_)
  -- the record of the loop, as it is ready, busy, done
  let rc : LoopState → Option Code → Loop := fun st pe => { state := st, pending := pe, fn, tmps := a.tmps, params := ps, assign, body, defers := w.heap.size }
  have hz1 : (w.alloc (.deferred (some []))).heap.size = w.heap.size + 1 := by simp
  generalize hW1 : (w.alloc (.deferred (some []))).alloc (.loop (rc .ready none)) = W1
  have hl1 : W1.heap[w.heap.size + 1]? = some (.loop (rc .ready none)) := by
    rw [← hW1, ← hz1]; exact World.alloc_heap_new _ _
  have hd1 : W1.heap[w.heap.size]? = some (.deferred (some [])) := by
    rw [← hW1]; exact (Below.heap_alloc _ _ _ (by simp)).trans (World.alloc_heap_new w _)
  refine ⟨w.heap.size + 1, [{ target := .collected w.heap.size, args := #[] }], W1, { target := .fn (.func gf) lb, args := #[.func (.yield (w.heap.size + 1)) #[] #[]] }, W1, gf, #[.func (.yield (w.heap.size + 1)) #[] #[]] ++ lb, W1, ?_, ?_, fun _ _ => trivial, ?_, (fun h => by cases h), ?_⟩
  · rw [← hW1]; exact run_enterLoop_outer fn a.tmps ps assign body
  · simp only [resolve, hg]; simp [go_sem]
  · simp [invoke, go_sem, eg]
  · refine callsIn_wide.2 ?_
    refine (hseq (w.heap.size + 1)
      (fun pre W => I pre W ∧ W.heap[w.heap.size + 1]? = some (.loop (rc .ready none)) ∧ W.heap[w.heap.size]? = some (.deferred (some [])))
      (fun pre W => ∃ c, Ix c pre W ∧ W.heap[w.heap.size + 1]? = some (.loop (rc .done (some c))) ∧ W.heap[w.heap.size]? = some (.deferred (some []))) W1
      (by rw [← hW1]; exact ((Below.refl _ _).alloc (Nat.le_refl _) _).alloc (by simp) _)
      (fun pre A B ⟨h1, h2, h3⟩ hab => ⟨hI pre A B h1 hab, hAb A B hab _ _ h2 rfl, hAb A B hab _ _ h3 rfl⟩)
      (fun pre A B ⟨c, h1, h2, h3⟩ hab => ⟨c, hIx c pre A B h1 hab, hAb A B hab _ _ h2 rfl, hAb A B hab _ _ h3 rfl⟩) ?_
      ⟨by rw [← hW1]; exact h0 _ _, hl1, hd1⟩).mono ?_
    · rintro pre x W ⟨hi, hl, hd⟩ hx
      refine ⟨fn, _, assign, body, run_yield hl (hps x), roundIn_of_wpIn trivial (wpIn_mono (hround (w.heap.size + 1) pre x W (by omega) hi hx) ?_)⟩
      intro e a₁ W₁ hK
      cases e with
      | normal =>
        obtain ⟨hs, hk, hb⟩ := hK
        have hl' := hs _ _ hl rfl
        have hd' := hs _ _ hd rfl
        refine ⟨_, run_beginRound hl' rfl, wpIn_mono (hb _ (.loop (rc .busy none)) hl' rfl) ?_⟩
        have hk2 : Kp W (W₁.putObj (w.heap.size + 1) (.loop (rc .busy none))) := hKt hk (hKp W₁ _ _ _ (by omega) hl' rfl)
        have hl2 : (W₁.putObj (w.heap.size + 1) (.loop (rc .busy none))).heap[w.heap.size + 1]? = some (.loop (rc .busy none)) := World.putObj_heap_same (Array.getElem?_eq_some_iff.1 hl').1
        have hd2 : (W₁.putObj (w.heap.size + 1) (.loop (rc .busy none))).heap[w.heap.size]? = some (.deferred (some [])) := (putObj_other (by omega)).trans hd'
        intro e2 a2 W2 hq
        -- behind the body, whatever the jump
        have fin : ∀ jump : Option Code, Same (W₁.putObj (w.heap.size + 1) (.loop (rc .busy none))) W2 → Kp (W₁.putObj (w.heap.size + 1) (.loop (rc .busy none))) W2 → ∃ W3, W3 = W2.putObj (w.heap.size + 1) (.loop (rc (if jump.isNone then .ready else .done) jump)) ∧ (Instr.endRound (w.heap.size + 1) jump).run P W2 = .ok (.bool jump.isNone) W3 ∧ W2.heap[w.heap.size + 1]? = some (.loop (rc .busy none)) ∧ W3.heap[w.heap.size + 1]? = some (.loop (rc (if jump.isNone then .ready else .done) jump)) ∧ W3.heap[w.heap.size]? = some (.deferred (some [])) ∧ Kp W W3 := fun jump h1 h2 => by
          have hb2 := h1 _ _ hl2 rfl
          exact ⟨_, rfl, run_endRound jump hb2, hb2, World.putObj_heap_same (Array.getElem?_eq_some_iff.1 hb2).1, (putObj_other (by omega)).trans (h1 _ _ hd2 rfl), hKt (hKt hk2 h2) (hKp W2 _ _ _ (by omega) hb2 rfl)⟩
        cases e2 with
        | normal =>
          obtain ⟨q1, q2, q3⟩ := hq
          obtain ⟨W3, rfl, f1, f2, f3, f4, f5⟩ := fin none q1 q2
          exact ⟨_, _, f1, .inl ⟨rfl, ⟨hIp _ _ _ _ _ (by omega) f2 rfl q3, f3, f4⟩, f5⟩⟩
        | ret =>
          obtain ⟨q1, q2, q3⟩ := hq
          obtain ⟨W3, rfl, f1, f2, f3, f4, f5⟩ := fin (some .ret) q1 q2
          exact ⟨_, _, f1, .inr ⟨rfl, ⟨_, hIxp _ _ _ _ _ _ (by omega) f2 rfl q3, f3, f4⟩, f5⟩⟩
        | exit id =>
          obtain ⟨q1, q2, q3⟩ := hq
          obtain ⟨W3, rfl, f1, f2, f3, f4, f5⟩ := fin (some (.exit id)) q1 q2
          exact ⟨_, _, f1, .inr ⟨rfl, ⟨_, hIxp _ _ _ _ _ _ (by omega) f2 rfl q3, f3, f4⟩, f5⟩⟩
        | goto t =>
          obtain ⟨q1, q2, q3⟩ := hq
          obtain ⟨W3, rfl, f1, f2, f3, f4, f5⟩ := fin (some (.goto t)) q1 q2
          exact ⟨_, _, f1, .inr ⟨rfl, ⟨_, hIxp _ _ _ _ _ _ (by omega) f2 rfl q3, f3, f4⟩, f5⟩⟩
        | panic ch => exact hq.elim
        | outgrown => exact hq.elim
      | ret => exact hK.elim
      | exit id => exact hK.elim
      | goto t => exact hK.elim
      | panic ch => exact hK.elim
      | outgrown => exact hK.elim
    · have hb1 : Below n₀ w W1 := by rw [← hW1]; exact ((Below.refl _ _).alloc hn0 _).alloc (by simp; omega) _
      have hbp : ∀ (W : World) (o' : Obj), Below n₀ w W → Below n₀ w (W.putObj (w.heap.size + 1) o') := fun W o' h => h.trans ⟨rfl, rfl, rfl, by simp [World.putObj], fun k hk => putObj_other (by omega)⟩
      rintro e W2 ⟨⟨v, rfl⟩, hbl, ⟨hi, hl, hd⟩ | ⟨pre, hp, c, hi, hl, hd⟩⟩
      · exact ⟨none, _, run_endLoop hl (by simp [rc]), hdone _ _ (Nat.le_refl _) (hbp _ _ (hb1.trans hbl)) (hIp _ _ _ _ _ (by omega) hl rfl hi) ((putObj_other (by omega)).trans hd)⟩
      · exact ⟨some c, _, run_endLoop hl (by simp [rc]), (wpIn_wide (n := 0)).2 (hstop _ c pre _ (Nat.le_refl _) (hbp _ _ (hb1.trans hbl)) hp (hIxp _ _ _ _ _ _ (by omega) hl rfl hi) ((putObj_other (by omega)).trans hd))⟩
end Go.Proofs.YtkbinfhclaafhaaDoor
