import Derived.Test.YtkbinfhclaafhaaDoorJnScript
import Derived.Test.YtkbinfhclaafhaaDoorRows
import Derived.JoinedOf
import Derived.Lib.LaidIn
import Derived.Deep.DeepLaidRun
namespace Go.Proofs.YtkbinfhclaafhaaDoor
open Go.ChangeShapes Go.WideShapes Go.ChangeAt Go.RowKit Go.Deep Go.Lib
set_option maxRecDepth 100000

theorem joined_j1 : (Rows.joinedRow.inPlace == Tryd.prog.inPlace 4) = true := by kernel_rfl
theorem joined_j2 : (Rows.joinedRow.unfollowed == Tryd.prog.unfollowed 4) = true := by kernel_rfl
theorem joined_j3 : (Rows.joinedRow.recurses == Tryd.prog.recurses 4) = true := by kernel_rfl
theorem joined_j4 : (Rows.joinedRow.named == Tryd.prog.varsNamed 4) = true := by kernel_rfl
theorem joined_joined : Go.joinedFacts Tryd.prog 4 Tryd.f4 Rows.joinedSpec Rows.joinedRow = true := by
  unfold Go.joinedFacts
  rw [joined_j1, joined_j2, joined_j3, joined_j4]
  kernel_rfl
theorem joined_met (os : Os) (args : Array Value) : laidMetH Tryd.prog Rows.joinedRow.laid ((World.doorLaid Tryd.prog 200 os).forCall (fun _ _ => 0) ⟨#[], args, []⟩).memory :=
  laidMetH_of_parts3 (fuel := 8) (laidMet_of_run' 8 (by kernel_rfl) (by kernel_rfl)) (by kernel_rfl) (by kernel_rfl)
theorem joined_lifted (os : Os) (started : os.Started) (H : Type) (enc : TypeId × Value → H) :
    ReturnsInHanded {} Tryd.checked os 4 .any (fun w args => (Rows.joinedSpec.pre enc Tryd.prog Tryd.f4 [] false w args ∧ laidMetH Tryd.prog Rows.joinedRow.laid w) ∧ sizedMet enc Tryd.prog Tryd.f4 (OpenSpec.ofChange Rows.joinedSpec) false w args)
      (Rows.joinedSpec.post enc Tryd.prog Tryd.f4 false true false false) := by
  refine returnsInHanded_of_change_and (C := Tryd.checked) (X := fun w _ => laidMetH Tryd.prog Rows.joinedRow.laid w) (fun _ _ _ hh h => h.of_heap hh) own started (by kernel_rfl) Tryd.func4
    (ChangeSpec.witness_shaped (enc := enc) (C := Tryd.checked) (os := os) (X := fun w _ => laidMetH Tryd.prog Rows.joinedRow.laid w) false (World.doorLaid Tryd.prog 200 os) #[.slice none 0 0] 8 rfl (World.shaped_of_RefB (by kernel_rfl) (by kernel_rfl)) (by kernel_rfl) (by kernel_rfl) (by kernel_rfl) (joined_met os _)) ?_
  intro W base args ds gs before hval0 hW _ hsz0 hL _
  have hval : ∀ (j : Nat) t v, Tryd.f4.params[j]? = some t → args[j]? = some v → Value.okWide Tryd.prog W .any base t v := hval0
  have hW' := hW
  obtain ⟨p, q, hA0, hV, rfl, hfz, hnd⟩ := hW
  have hA : DataW.TrodAll enc Tryd.prog W 0 (fun _ => true) true Tryd.f4.params.toList args.toList ds p := hA0
  have hsz : (DataW.weightsEach Tryd.prog (Tryd.f4.params.toList ++ Rows.joinedSpec.plain.varTypes Tryd.prog) (ds ++ gs)).all (· ≤ reachBytes) = true := hsz0
  rw [Tryd.params4] at hA hval hsz
  obtain ⟨v0, d0, rfl, rfl, h0⟩ := trodAll_one hA
  obtain ⟨rfl, rfl⟩ := trodVars_none hV
  have hP := penv_of_joined hL
  have hpn : 6 ≤ W.heap.size := by rcases hP.sz with h | ⟨_, h⟩ <;> omega
  clear hA0 hval0 hsz0
  simp only [List.append_nil] at hW'
  obtain ⟨ao, len, cap, rfl⟩ := okWide_slice Tryd.underlying23 (hval 0 23 v0 rfl rfl)
  have h0k := h0
  obtain ⟨fuel, hf⟩ := h0
  have walk : Calls Tryd.prog 4 #[.slice ao len cap] W fun e w' => e = .returned (.bool true) ∧ Below W.heap.size W w' := by
    rcases open_script (by simpa [Value.cells] using hf) with ⟨ao', cap', hc⟩ | ⟨b, off, len', cap', ops, hc, hl, hO, hs, elems, spare, ps, hx, hel⟩
    · simp at hc
      obtain ⟨rfl, rfl, rfl⟩ := hc
      exact joined_law_zero _ _ W
    · simp at hc
      obtain ⟨rfl, rfl, rfl⟩ := hc
      have hd : d0 = .slice elems spare := congrArg Prod.fst hx
      have hb := sized_slice hsz (j := 0) (t := 23) (e := 26) (elems := elems) (spare := spare) rfl (by rw [hd]; rfl) Tryd.underlying23
      rw [bytesOp] at hb
      have hn : len ≤ 1000000000000000 := by simp only [reachBytes] at hb; omega
      exact joined_law_row ops b off cap len W hP hpn hl hn hO
  refine walk.mono fun e W' ⟨he, hb⟩ => ?_
  subst he
  have e1 : Rows.joinedSpec.fn H ([d0] ++ []) = { results := [.lit (.bool true)], args := [d0] } := rfl
  have hlt : ∀ x ∈ p, x.block < W.heap.size := fun x hx => by simpa using hW'.lt x hx
  refine ⟨_, rfl, _, _, _, [], p, [], hW', ?_, ?_, ?_, hb.frame _, fun h => by cases h⟩
  · rw [e1]; exact trodAll_mk1 (shut_bool Tryd.underlying4 true)
  · rw [e1]
    exact trodAll_mk1 (Below.trod laidOut (by kernel_rfl) (of_decide_eq_true (by kernel_rfl)) h0k hb hlt)
  · rw [e1]; rfl

theorem joined_said : Rows.JoinedSaid :=
  OpenClaim.holds_of_wide 4 Tryd.f4 rfl rfl rfl rfl rfl rfl rfl ⟨rfl, rfl, rfl, rfl, rfl⟩ rfl rfl rfl rfl rfl (by kernel_rfl) Tryd.func4 joined_joined
    (of_decide_eq_true (by kernel_rfl)) (by unfold Func.isWrapper; first | (rw [if_pos (by decide +kernel)]; kernel_rfl) | (rw [if_neg (by decide +kernel)]; exact ⟨rfl, rfl⟩))
    (fun os started H enc _ => joined_lifted os started H enc)
theorem joined_plain (f : FuncId) (fn : Func) (hf : Tryd.pinned.checked.prog.funcNamed "bidiguard/bidiguardlaw.Joined" = some f) (hfn : Tryd.pinned.checked.prog.funcs[f]? = some fn) :
    true = Tryd.pinned.checked.prog.looks [] ∧ ∀ (j : Nat) t, fn.params[j]? = some t → Tryd.pinned.checked.prog.wantsStandIn t = false := by
  obtain rfl : f = 4 := Option.some.inj ((show Tryd.prog.funcNamed "bidiguard/bidiguardlaw.Joined" = some 4 by kernel_rfl).symm.trans hf) |>.symm
  obtain rfl : fn = Tryd.f4 := (Option.some.inj (Tryd.func4.symm.trans hfn)).symm
  refine ⟨by kernel_rfl, fun j t ht => ?_⟩
  rw [Tryd.params4] at ht
  obtain rfl : t = 23 := by simpa using Array.mem_of_getElem? ht
  exact (show Tryd.prog.wantsStandIn 23 = false by kernel_rfl)

theorem joined_card : Rows.JoinedCardSaid :=
  Claim7.holds_tied_plain_at .later [] _ _ _ _ joined_said (fun _ h => by cases h) (by kernel_rfl) (fun _ h => by cases h) joined_row_tie rfl ⟨rfl, rfl⟩ (by kernel_rfl) rfl joined_plain (by kernel_rfl)
#print axioms joined_card
end Go.Proofs.YtkbinfhclaafhaaDoor
