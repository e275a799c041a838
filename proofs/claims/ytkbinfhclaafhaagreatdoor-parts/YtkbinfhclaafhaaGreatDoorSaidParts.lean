import Derived.Test.YtkbinfhclaafhaaGreatDoorWit
import Derived.Test.YtkbinfhclaafhaaGreatDoorLaidP
import Derived.Test.YtkbinfhclaafhaaGreatDoorLawRowP
import Derived.Test.YtkbinfhclaafhaaGreatDoorJoinParts
import Derived.Lib.LaidIn
namespace Go.Proofs.YtkbinfhclaafhaaGreatDoor
open Go.ChangeShapes Go.WideShapes Go.ChangeAt Go.RowKit Go.Deep Go.Lib
set_option maxRecDepth 100000

theorem parts_met (os : Os) (args : Array Value) : laidMetH Tryz.prog Rows.partsRow.laid ((layCase (layFirst (World.doorLaid Tryz.prog 200 os))).forCall (fun _ _ => 0) ⟨#[], args, []⟩).memory := wit_met os args

theorem parts_lifted (os : Os) (started : os.Started) (H : Type) (enc : TypeId × Value → H) :
    ReturnsInHanded {} Tryz.checked os 7 .any (fun w args => (Rows.partsSpec.pre enc Tryz.prog Tryz.f7 [] false w args ∧ laidMetH Tryz.prog Rows.partsRow.laid w) ∧ sizedMet enc Tryz.prog Tryz.f7 (OpenSpec.ofChange Rows.partsSpec) false w args)
      (Rows.partsSpec.post enc Tryz.prog Tryz.f7 false true false false) := by
  refine returnsInHanded_of_change_and (C := Tryz.checked) (X := fun w _ => laidMetH Tryz.prog Rows.partsRow.laid w) (fun _ _ _ hh h => h.of_heap hh) own started (by kernel_rfl) Tryz.func7
    (ChangeSpec.witness_shaped (enc := enc) (C := Tryz.checked) (os := os) (X := fun w _ => laidMetH Tryz.prog Rows.partsRow.laid w) false (layCase (layFirst (World.doorLaid Tryz.prog 200 os))) #[.slice none 0 0] 8 rfl (World.shaped_of_RefB (by kernel_rfl) (by kernel_rfl)) (by kernel_rfl) (by kernel_rfl) (by kernel_rfl) (parts_met os _)) ?_
  intro W base args ds gs before hval0 hW _ hsz0 hL _
  have hval : ∀ (j : Nat) t v, Tryz.f7.params[j]? = some t → args[j]? = some v → Value.okWide Tryz.prog W .any base t v := hval0
  have hW' := hW
  obtain ⟨p, q, hA0, hV, rfl, hfz, hnd⟩ := hW
  have hA : DataW.TrodAll enc Tryz.prog W 0 (fun _ => true) true Tryz.f7.params.toList args.toList ds p := hA0
  have hsz : (DataW.weightsEach Tryz.prog (Tryz.f7.params.toList ++ Rows.partsSpec.plain.varTypes Tryz.prog) (ds ++ gs)).all (· ≤ reachBytes) = true := hsz0
  rw [Tryz.params7] at hA hval hsz
  obtain ⟨v0, d0, rfl, rfl, h0⟩ := trodAll_one hA
  obtain ⟨rfl, rfl⟩ := trodVars_none hV
  have hP := penv_of_laid hL
  have h10 : 10 ≤ W.heap.size := by rcases hP.sz with h | ⟨_, h⟩ <;> omega
  clear hA0 hval0 hsz0
  simp only [List.append_nil] at hW'
  obtain ⟨ao, len, cap, rfl⟩ := okWide_slice Tryz.underlying22 (hval 0 22 v0 rfl rfl)
  have h0k := h0
  obtain ⟨fuel, hf⟩ := h0
  have walk : Calls Tryz.prog 7 #[.slice ao len cap] W fun e w' => e = .returned (.bool true) ∧ Below W.heap.size W w' := by
    rcases open_script (by simpa [Value.cells] using hf) with ⟨ao', cap', hc⟩ | ⟨b, off, len', cap', ops, hc, hl, hO, hs, elems, spare, ps, hx, hel⟩
    · simp at hc
      obtain ⟨rfl, rfl, rfl⟩ := hc
      exact parts_law_zero _ _ W
    · simp at hc
      obtain ⟨rfl, rfl, rfl⟩ := hc
      have hd : d0 = .slice elems spare := congrArg Prod.fst hx
      have hb := sized_slice hsz (j := 0) (t := 22) (e := 29) (elems := elems) (spare := spare) rfl (by rw [hd]; rfl) Tryz.underlying22
      rw [bytesOp] at hb
      have hn : len ≤ 1000000000000000 := by simp only [reachBytes] at hb; omega
      exact parts_law_row ops b off cap len W hP h10 hl hn hO
  refine walk.mono fun e W' ⟨he, hb⟩ => ?_
  subst he
  have e1 : Rows.partsSpec.fn H ([d0] ++ []) = { results := [.lit (.bool true)], args := [d0] } := rfl
  have hlt : ∀ x ∈ p, x.block < W.heap.size := fun x hx => by simpa using hW'.lt x hx
  refine ⟨_, rfl, _, _, _, [], p, [], hW', ?_, ?_, ?_, hb.frame _, fun h => by cases h⟩
  · rw [e1]; exact trodAll_mk1 (shut_bool Tryz.underlying4 true)
  · rw [e1]
    exact trodAll_mk1 (Below.trod laidOut (by kernel_rfl) (of_decide_eq_true (by kernel_rfl)) h0k hb hlt)
  · rw [e1]; rfl

theorem parts_said : Rows.PartsSaid :=
  OpenClaim.holds_of_wide 7 Tryz.f7 rfl rfl rfl rfl rfl rfl rfl ⟨rfl, rfl, rfl, rfl, rfl⟩ rfl rfl rfl rfl rfl (by kernel_rfl) Tryz.func7 parts_joined
    (of_decide_eq_true (by kernel_rfl)) (by unfold Func.isWrapper; first | (rw [if_pos (by decide +kernel)]; kernel_rfl) | (rw [if_neg (by decide +kernel)]; exact ⟨rfl, rfl⟩))
    (fun os started H enc _ => parts_lifted os started H enc)
end Go.Proofs.YtkbinfhclaafhaaGreatDoor
