import Derived.Test.YtkbinfhclaafhaaGreatDoorWit
import Derived.Test.YtkbinfhclaafhaaGreatDoorJoinClasses
import Derived.Lib.LaidIn
namespace Go.Proofs.YtkbinfhclaafhaaGreatDoor
open Go.ChangeShapes Go.WideShapes Go.ChangeAt Go.RowKit Go.Deep Go.Lib
set_option maxRecDepth 100000

theorem classes_met (os : Os) (args : Array Value) : laidMetH Tryz.prog Rows.classesRow.laid ((layCase (layFirst (World.doorLaid Tryz.prog 200 os))).forCall (fun _ _ => 0) ⟨#[], args, []⟩).memory := wit_met os args

theorem classes_lifted (os : Os) (started : os.Started) (H : Type) (enc : TypeId × Value → H) :
    ReturnsInHanded {} Tryz.checked os 3 .any (fun w args => (Rows.classesSpec.pre enc Tryz.prog Tryz.f3 [] false w args ∧ laidMetH Tryz.prog Rows.classesRow.laid w) ∧ sizedMet enc Tryz.prog Tryz.f3 (OpenSpec.ofChange Rows.classesSpec) false w args)
      (Rows.classesSpec.post enc Tryz.prog Tryz.f3 false true false false) := by
  refine returnsInHanded_of_change_and (C := Tryz.checked) (X := fun w _ => laidMetH Tryz.prog Rows.classesRow.laid w) (fun _ _ _ hh h => h.of_heap hh) own started (by kernel_rfl) Tryz.func3
    (ChangeSpec.witness_shaped (enc := enc) (C := Tryz.checked) (os := os) (X := fun w _ => laidMetH Tryz.prog Rows.classesRow.laid w) false (layCase (layFirst (World.doorLaid Tryz.prog 200 os))) #[.slice none 0 0] 8 rfl (World.shaped_of_RefB (by kernel_rfl) (by kernel_rfl)) (by kernel_rfl) (by kernel_rfl) (by kernel_rfl) (classes_met os _)) ?_
  intro W base args ds gs before hval0 hW _ hsz0 hL _
  have hval : ∀ (j : Nat) t v, Tryz.f3.params[j]? = some t → args[j]? = some v → Value.okWide Tryz.prog W .any base t v := hval0
  have hW' := hW
  obtain ⟨p, q, hA0, hV, rfl, hfz, hnd⟩ := hW
  have hA : DataW.TrodAll enc Tryz.prog W 0 (fun _ => true) true Tryz.f3.params.toList args.toList ds p := hA0
  have hsz : (DataW.weightsEach Tryz.prog (Tryz.f3.params.toList ++ Rows.classesSpec.plain.varTypes Tryz.prog) (ds ++ gs)).all (· ≤ reachBytes) = true := hsz0
  rw [Tryz.params3] at hA hval hsz
  obtain ⟨v0, d0, rfl, rfl, h0⟩ := trodAll_one hA
  obtain ⟨rfl, rfl⟩ := trodVars_none hV
  obtain ⟨aL, aT, aC, hE⟩ := env_of_laid hL
  clear hA0 hval0 hsz0
  simp only [List.append_nil] at hW'
  obtain ⟨ao, len, cap, rfl⟩ := okWide_slice Tryz.underlying22 (hval 0 22 v0 rfl rfl)
  have h0k := h0
  obtain ⟨fuel, hf⟩ := h0
  have walk : Calls Tryz.prog 3 #[.slice ao len cap] W fun e w' => e = .returned (.bool true) ∧ Below W.heap.size W w' := by
    rcases open_script (by simpa [Value.cells] using hf) with ⟨ao', cap', hc⟩ | ⟨b, off, len', cap', ops, hc, hl, hO, hs, elems, spare, ps, hx, hel⟩
    · simp at hc
      obtain ⟨rfl, rfl, rfl⟩ := hc
      exact classes_law_zero _ _ W
    · simp at hc
      obtain ⟨rfl, rfl, rfl⟩ := hc
      have hd : d0 = .slice elems spare := congrArg Prod.fst hx
      have hb := sized_slice hsz (j := 0) (t := 22) (e := 29) (elems := elems) (spare := spare) rfl (by rw [hd]; rfl) Tryz.underlying22
      rw [bytesOp] at hb
      have hn : len ≤ 1000000000000000 := by simp only [reachBytes] at hb; omega
      exact classes_law_row ops b off cap len W aL aT aC hE hl hn hO hs
  refine walk.mono fun e W' ⟨he, hb⟩ => ?_
  subst he
  have e1 : Rows.classesSpec.fn H ([d0] ++ []) = { results := [.lit (.bool true)], args := [d0] } := rfl
  have hlt : ∀ x ∈ p, x.block < W.heap.size := fun x hx => by simpa using hW'.lt x hx
  refine ⟨_, rfl, _, _, _, [], p, [], hW', ?_, ?_, ?_, hb.frame _, fun h => by cases h⟩
  · rw [e1]; exact trodAll_mk1 (shut_bool Tryz.underlying4 true)
  · rw [e1]
    exact trodAll_mk1 (Below.trod laidOut (by kernel_rfl) (of_decide_eq_true (by kernel_rfl)) h0k hb hlt)
  · rw [e1]; rfl

theorem classes_said : Rows.ClassesSaid :=
  OpenClaim.holds_of_wide 3 Tryz.f3 rfl rfl rfl rfl rfl rfl rfl ⟨rfl, rfl, rfl, rfl, rfl⟩ rfl rfl rfl rfl rfl (by kernel_rfl) Tryz.func3 classes_joined
    (of_decide_eq_true (by kernel_rfl)) (by unfold Func.isWrapper; first | (rw [if_pos (by decide +kernel)]; kernel_rfl) | (rw [if_neg (by decide +kernel)]; exact ⟨rfl, rfl⟩))
    (fun os started H enc _ => classes_lifted os started H enc)

theorem classes_plain (f : FuncId) (fn : Func) (hf : Tryz.pinned.checked.prog.funcNamed "bidiguard/bidiguardlaw.Classes" = some f) (hfn : Tryz.pinned.checked.prog.funcs[f]? = some fn) :
    true = Tryz.pinned.checked.prog.looks [] ∧ ∀ (j : Nat) t, fn.params[j]? = some t → Tryz.pinned.checked.prog.wantsStandIn t = false := by
  obtain rfl : f = 3 := Option.some.inj ((show Tryz.prog.funcNamed "bidiguard/bidiguardlaw.Classes" = some 3 by kernel_rfl).symm.trans hf) |>.symm
  obtain rfl : fn = Tryz.f3 := (Option.some.inj (Tryz.func3.symm.trans hfn)).symm
  refine ⟨by kernel_rfl, fun j t ht => ?_⟩
  rw [Tryz.params3] at ht
  obtain rfl : t = 22 := by simpa using Array.mem_of_getElem? ht
  exact (show Tryz.prog.wantsStandIn 22 = false by kernel_rfl)

theorem classes_card : Rows.ClassesCardSaid :=
  Claim7.holds_tied_plain_at .later [] _ _ _ _ classes_said (fun _ h => by cases h) (by kernel_rfl) (fun _ h => by cases h) classes_row_tie rfl ⟨rfl, rfl⟩ (by kernel_rfl) rfl classes_plain (by kernel_rfl)
#print axioms classes_card
end Go.Proofs.YtkbinfhclaafhaaGreatDoor
