import Derived.Test.YtkbinfhclaafhaaGreatDoorWit
import Derived.Test.YtkbinfhclaafhaaGreatDoorJoinApplies
import Derived.Test.YtkbinfhclaafhaaGreatDoorApOps
import Derived.Lib.LaidIn
import Derived.JoinedCond
import Derived.Deep.DeepHandedRow
namespace Go.Proofs.YtkbinfhclaafhaaGreatDoor
open Go.ChangeShapes Go.WideShapes Go.ChangeAt Go.RowKit Go.Deep Go.Lib
set_option maxRecDepth 100000

theorem applies_met (os : Os) (args : Array Value) : laidMetH Tryz.prog Rows.appliesUptoRow.laid ((layCase (layFirst (World.doorLaid Tryz.prog 200 os))).forCall (fun _ _ => 0) ⟨#[], args, []⟩).memory := wit_met os args

theorem applies_row (os : Os) {H : Type} (enc : TypeId × Value → H) :
    (Rows.OpenSpec.upto Rows.appliesSpec).preRow enc Tryz.prog Tryz.f10 [] false Rows.appliesUptoRow.laid ((layCase (layFirst (World.doorLaid Tryz.prog 200 os))).forCall (fun _ _ => 0) ⟨#[], #[.slice none 0 0], []⟩).memory #[.slice none 0 0] := by
  have hw : (DataW.whole enc Tryz.prog ((layCase (layFirst (World.doorLaid Tryz.prog 200 os))).forCall (fun _ _ => 0) ⟨#[], #[.slice none 0 0], []⟩).memory Tryz.f10.params.toList (Rows.OpenSpec.upto Rows.appliesSpec).vars false #[Value.slice none 0 0].toList 8).map (fun x => (x.1, x.2.1)) =
      some ([.nil], []) := by kernel_rfl
  obtain ⟨⟨x1, x2, x3⟩, hx, hx1⟩ := Option.map_eq_some_iff.1 hw
  simp only [Prod.mk.injEq] at hx1
  obtain ⟨rfl, rfl⟩ := hx1
  exact OpenSpec.preRow_of_cond 8 hx (by kernel_rfl) (fun k hk => by cases hk; rfl) (by kernel_rfl) (applies_met os _)

theorem applies_wit (os : Os) {H : Type} (enc : TypeId × Value → H) :
    ∃ (w : World) (tape : Tape) (i : Input), w.os = os ∧ (w.forCall tape i).Shaped Tryz.prog ∧ i.vars = [] ∧ Input.okWide Tryz.prog (w.forCall tape i) .any w.heap.size 10 i ∧
      (Rows.OpenSpec.upto Rows.appliesSpec).preRow enc Tryz.prog Tryz.f10 [] false Rows.appliesUptoRow.laid (w.forCall tape i).memory i.args ∧ ({ modest := false } : Assume).holds Tryz.prog (lone (Frame.enter Tryz.prog 10 i.args .normal) [] (w.forCall tape i)) := by
  have hok : Input.okWideB Tryz.prog ((layCase (layFirst (World.doorLaid Tryz.prog 200 os))).forCall (fun _ _ => 0) ⟨#[], #[.slice none 0 0], []⟩) 10 ⟨#[], #[.slice none 0 0], []⟩ = true := by kernel_rfl
  exact ⟨layCase (layFirst (World.doorLaid Tryz.prog 200 os)), fun _ _ => 0, ⟨#[], #[.slice none 0 0], []⟩, rfl, World.shaped_of_RefB (by kernel_rfl) (by kernel_rfl), rfl, (Input.okWide_of_okWideB hok).2, applies_row os enc, by
    simp only [Assume.holds]
    exact ⟨by simp, by simp, fun _ => Modest.zero, by simp, by simp⟩⟩

theorem applies_lifted (os : Os) (started : os.Started) (H : Type) (enc : TypeId × Value → H) (F : Stop.Interp) :
    ReturnsInHanded {} Tryz.checked os 10 .any ((Rows.OpenSpec.upto Rows.appliesSpec).preRow enc Tryz.prog Tryz.f10 [] false Rows.appliesUptoRow.laid)
      (((Rows.OpenSpec.upto Rows.appliesSpec).at F).post enc Tryz.prog Tryz.f10 false true false false) := by
  refine returnsInHanded_of_row (C := Tryz.checked) (s := Rows.OpenSpec.upto Rows.appliesSpec) own started (by kernel_rfl) Tryz.func10 (applies_wit os enc) ?_
  intro W base args ds gs before hval0 hW _ hcond0 hsz0 _ _ _
  have hcond : Rows.uptoSmall H (ds ++ gs) = true := hcond0 _ rfl
  have hval : ∀ (j : Nat) t v, Tryz.f10.params[j]? = some t → args[j]? = some v → Value.okWide Tryz.prog W .any base t v := hval0
  have hW' := hW
  obtain ⟨p, q, hA0, hV, rfl, hfz, hnd⟩ := hW
  have hA : DataW.TrodAll enc Tryz.prog W 0 (fun _ => true) true Tryz.f10.params.toList args.toList ds p := hA0
  have hsz : (DataW.weightsEach Tryz.prog (Tryz.f10.params.toList ++ (Rows.OpenSpec.upto Rows.appliesSpec).bare.plain.varTypes Tryz.prog) (ds ++ gs)).all (· ≤ reachBytes) = true := hsz0
  rw [Tryz.params10] at hA hval hsz
  obtain ⟨v0, d0, rfl, rfl, h0⟩ := trodAll_one hA
  obtain ⟨rfl, rfl⟩ := trodVars_none hV
  clear hA0 hval0 hsz0 hcond0
  simp only [List.append_nil] at hW'
  obtain ⟨ao, len, cap, rfl⟩ := okWide_slice Tryz.underlying22 (hval 0 22 v0 rfl rfl)
  have h0k := h0
  obtain ⟨fuel, hf⟩ := h0
  have hbk : Rows.uptoBulk d0 ≤ 1048576 := by
    have h : Rows.uptoBulkAll ([d0] ++ []) ≤ 1048576 := of_decide_eq_true hcond
    simp only [List.append_nil, Rows.uptoBulkAll] at h
    omega
  have walk : Calls Tryz.prog 10 #[.slice ao len cap] W fun e w' => e = .returned (.bool true) ∧ Below W.heap.size W w' := by
    rcases open_small (by simpa [Value.cells] using hf) hbk with ⟨ao', cap', hc⟩ | ⟨b, off, len', cap', ops, hc, hl, hO, hs, elems, spare, ps, hx, hel⟩
    · simp at hc
      obtain ⟨rfl, rfl, rfl⟩ := hc
      exact applies_law_zero _ _ W
    · simp at hc
      obtain ⟨rfl, rfl, rfl⟩ := hc
      have hd : d0 = .slice elems spare := congrArg Prod.fst hx
      have hb := sized_slice hsz (j := 0) (t := 22) (e := 29) (elems := elems) (spare := spare) rfl (by rw [hd]; rfl) Tryz.underlying22
      rw [bytesOp] at hb
      have hn : len ≤ 1000000000000000 := by simp only [reachBytes] at hb; omega
      exact applies_law_row ops b off cap len W hl hn hO hs
  refine walk.mono fun e W' ⟨he, hb⟩ => ?_
  subst he
  have e1 : ((Rows.OpenSpec.upto Rows.appliesSpec).at F).fn H ([d0] ++ []) = { results := [.lit (.bool true)], args := [d0] } := rfl
  have hlt : ∀ x ∈ p, x.block < W.heap.size := fun x hx => by simpa using hW'.lt x hx
  refine ⟨_, rfl, _, _, _, [], p, [], hW', ?_, ?_, ?_, hb.frame _, fun h => by cases h⟩
  · rw [e1]; exact trodAll_mk1 (shut_bool Tryz.underlying4 true)
  · rw [e1]
    exact trodAll_mk1 (Below.trod laidOut (by kernel_rfl) (of_decide_eq_true (by kernel_rfl)) h0k hb hlt)
  · rw [e1]; rfl

theorem applies_said : Rows.AppliesUptoSaid :=
  OpenClaim.holds_of_cond 10 Tryz.f10 rfl rfl rfl rfl rfl rfl rfl ⟨rfl, rfl, rfl, rfl, rfl⟩ rfl rfl rfl rfl rfl (by kernel_rfl) Tryz.func10 applies_joined
    (of_decide_eq_true (by kernel_rfl)) (by unfold Func.isWrapper; first | (rw [if_pos (by decide +kernel)]; kernel_rfl) | (rw [if_neg (by decide +kernel)]; exact ⟨rfl, rfl⟩))
    (fun os started H enc _ F => by rw [OpenClaim.pre_eq_preRow]; exact applies_lifted os started H enc F)

theorem applies_plain (f : FuncId) (fn : Func) (hf : Tryz.pinned.checked.prog.funcNamed "bidiguard/bidiguardlaw.Applies" = some f) (hfn : Tryz.pinned.checked.prog.funcs[f]? = some fn) :
    true = Tryz.pinned.checked.prog.looks [] ∧ ∀ (j : Nat) t, fn.params[j]? = some t → Tryz.pinned.checked.prog.wantsStandIn t = false := by
  obtain rfl : f = 10 := Option.some.inj ((show Tryz.prog.funcNamed "bidiguard/bidiguardlaw.Applies" = some 10 by kernel_rfl).symm.trans hf) |>.symm
  obtain rfl : fn = Tryz.f10 := (Option.some.inj (Tryz.func10.symm.trans hfn)).symm
  refine ⟨by kernel_rfl, fun j t ht => ?_⟩
  rw [Tryz.params10] at ht
  obtain rfl : t = 22 := by simpa using Array.mem_of_getElem? ht
  exact (show Tryz.prog.wantsStandIn 22 = false by kernel_rfl)

theorem applies_card : Rows.AppliesUptoCardSaid :=
  Claim7.holds_tied_plain_at .later [] _ _ _ _ applies_said (fun _ h => by cases h) (by kernel_rfl) (fun _ h => by cases h) appliesUpto_row_tie rfl ⟨rfl, rfl⟩ (by kernel_rfl) rfl applies_plain (by kernel_rfl)
#print axioms applies_card
end Go.Proofs.YtkbinfhclaafhaaGreatDoor
