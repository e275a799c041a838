import Derived.ScopeJumps
import Derived.WalkMore
namespace Go.Proofs.YtkbinfhclaafhaaDoor

/-! A scope with several labels: what holds at each jump, and a number that each pass lowers. -/
/-- As Q; by a goto to label l: K l. -/
def jumps (K : Nat → Act → World → Prop) (Q : Exit → Act → World → Prop) : Exit → Act → World → Prop
  | .goto l, a, w => K l a w
  | e, a, w => Q e a w
section
variable {P : Program} {a : Act} {w : World} {Q : Exit → Act → World → Prop} {K : Nat → Act → World → Prop}
@[go_sem] theorem jumps_normal : jumps K Q .normal a w = Q .normal a w := rfl
@[go_sem] theorem jumps_exit (id : Nat) : jumps K Q (.exit id) a w = Q (.exit id) a w := rfl
@[go_sem] theorem jumps_ret : jumps K Q .ret a w = Q .ret a w := rfl
@[go_sem] theorem jumps_panic (ch : List PanicEntry) : jumps K Q (.panic ch) a w = Q (.panic ch) a w := rfl
@[go_sem] theorem jumps_goto (l : Nat) : jumps K Q (.goto l) a w = K l a w := rfl
theorem wp_scope_labels {r X : Code} (l0 : Nat) (J : Nat → Nat → Act → World → Prop)
    (first : r.wp P (Exit.then (fun a w => ∃ n, J l0 n a w) (fun _ _ _ => False)) a w)
    (hf0 : findLabel (.seq r (.seq (.label l0) X)) l0 = some (.seq .skip X))
    (pass : ∀ l n a w, J l n a w → ∃ X', findLabel (.seq r (.seq (.label l0) X)) l = some (.seq .skip X') ∧ X'.wp P (jumps (fun l' a' w' => ∃ m, m < n ∧ J l' m a' w') Q) a w) :
    (Code.scope (.seq r (.seq (.label l0) X))).wp P Q a w := by
  have key : ∀ n l a w, J l n a w → ∀ b k cs, ∃ e a' w', Q e a' w' ∧ ∃ rest, findLabel (.seq r (.seq (.label l0) X)) l = some rest ∧ Arrives P (lone (b.at a (.code rest :: .inScope (.seq r (.seq (.label l0) X)) :: k)) cs w) b k cs e a' w' := by
    intro n
    induction n using Nat.strongRecOn with
    | _ n ih =>
      intro l a w hJ b k cs
      obtain ⟨X', hf, hX⟩ := pass l n a w hJ
      have hX2 : (Code.seq .skip X').wp P (jumps (fun l' a' w' => ∃ m, m < n ∧ J l' m a' w') Q) a w := wp_seq (wp_skip hX)
      obtain ⟨e, a₁, w₁, hq, harr⟩ := hX2 b (.inScope (.seq r (.seq (.label l0) X)) :: k) cs
      cases e with
      | normal => exact ⟨.normal, a₁, w₁, hq, _, hf, Steps.trans harr (.one step_inScope)⟩
      | exit id => exact ⟨.exit id, a₁, w₁, hq, _, hf, fun k' hk => harr k' (by simp [exitTo, hk])⟩
      | goto l' =>
        obtain ⟨m, hm, hJ'⟩ := hq
        obtain ⟨e₂, a₂, w₂, hq₂, rest, hf2, harr₂⟩ := ih m hm l' a₁ w₁ hJ' b k cs
        exact ⟨e₂, a₂, w₂, hq₂, _, hf, .of_steps (harr _ (by simp [gotoIn, hf2])) harr₂⟩
      | ret => exact ⟨_, a₁, w₁, hq, _, hf, harr⟩
      | panic ch => exact ⟨_, a₁, w₁, hq, _, hf, harr⟩
      | outgrown => exact ⟨_, a₁, w₁, hq, _, hf, harr⟩
  have first' : (Code.seq r (.seq (.label l0) X)).wp P (jumps (fun l' a' w' => ∃ m, J l' m a' w') Q) a w := by
    refine wp_seq (wp_mono first ?_)
    intro e a' w' h
    cases e with
    | normal =>
      obtain ⟨n, hJ⟩ := h
      obtain ⟨X', hf, hX⟩ := pass l0 n a' w' hJ
      rw [hf0] at hf
      injection hf with hf
      injection hf with _ hf
      subst hf
      refine wp_seq (wp_label ?_)
      refine wp_mono hX ?_
      intro e a'' w'' h'
      cases e with
      | goto l' => obtain ⟨m, _, hJ'⟩ := h'; exact ⟨m, hJ'⟩
      | _ => exact h'
    | _ => exact h.elim
  intro b k cs
  obtain ⟨e, a₁, w₁, hq, harr⟩ := first' b (.inScope (.seq r (.seq (.label l0) X)) :: k) cs
  cases e with
  | normal => exact ⟨.normal, a₁, w₁, hq, .head step_scope (Steps.trans harr (.one step_inScope))⟩
  | exit id => exact ⟨.exit id, a₁, w₁, hq, fun k' hk => .head step_scope (harr k' (by simp [exitTo, hk]))⟩
  | goto l' =>
    obtain ⟨m, hJ'⟩ := hq
    obtain ⟨e₂, a₂, w₂, hq₂, rest, hf2, harr₂⟩ := key m l' a₁ w₁ hJ' b k cs
    exact ⟨e₂, a₂, w₂, hq₂, .of_steps (.head step_scope (harr _ (by simp [gotoIn, hf2]))) harr₂⟩
  | ret => exact ⟨_, a₁, w₁, hq, .of_steps (.one step_scope) harr⟩
  | panic ch => exact ⟨_, a₁, w₁, hq, .of_steps (.one step_scope) harr⟩
  | outgrown => exact ⟨_, a₁, w₁, hq, .of_steps (.one step_scope) harr⟩
end
end Go.Proofs.YtkbinfhclaafhaaDoor
