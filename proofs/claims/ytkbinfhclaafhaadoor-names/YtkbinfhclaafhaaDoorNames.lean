import Derived.Test.YtkbinfhclaafhaaDoorCards
import Derived.Test.YtkbinfhclaafhaaDoorTie
import Derived.WalkKit
import Derived.ProofKit
import Derived.OpenShut
import Derived.LaidMore
import Derived.LaidEql
import Derived.LaidLaws
import Derived.Stop.Joined
import Derived.Deep.QuietTactic
import Derived.BigQuiet
namespace Go.Proofs.YtkbinfhclaafhaaDoor
open Go.ChangeShapes Go.WideShapes Go.ChangeAt Go.RowKit

theorem run_neq_iface_ptr_other {P : Program} (w : World) {ti tp te : TypeId} {ms : Array (String × TypeId)} {i j : TypeInfo} {a b : Addr} {ca cb : Array Value} {ta tb : TypeId}
    (hi : P.underlying ti = some (.interface ms)) (hp : P.underlying tp = some (.pointer te)) (hinfo : P.info? tp = some i) (hcomp : i.comparable = true) (hte : P.info? te = some j) (hsz : j.size ≠ 0)
    (hne : a ≠ b) (ha : w.heap[a.block]? = some (.cells ca ta (0, 0))) (hb : w.heap[b.block]? = some (.cells cb tb (0, 0))) :
    (binOp .neq ti (.iface tp (.pointer (some a))) (.iface tp (.pointer (some b)))).run P w = .ok (.bool true) w := by
  simp only [binOp]
  simp [Op.equal, Op.maxDepth, run_equalIn_iface_ptr_other w 9998 hi hp hinfo hcomp hte hsz hne ha hb]

theorem Tryd.comp25 : (Tryd.prog.info? 51).map (·.comparable) = some true := by kernel_rfl
theorem Tryd.size43 : (Tryd.prog.info? 71).map (·.size) = some 1 := by kernel_rfl

set_option maxHeartbeats 1000000 in
theorem different (w : World) (a0 a1 a2 : Addr) (c0 c1 c2 : Array Value) (t0 t1 t2 : TypeId)
    (hc0 : w.cell? ⟨0, 0, none⟩ = some (.iface 51 (.pointer (some a0)))) (hc1 : w.cell? ⟨1, 0, none⟩ = some (.iface 51 (.pointer (some a1)))) (hc2 : w.cell? ⟨2, 0, none⟩ = some (.iface 51 (.pointer (some a2))))
    (h01 : a0 ≠ a1) (h12 : a1 ≠ a2) (h02 : a0 ≠ a2)
    (hb0 : w.heap[a0.block]? = some (.cells c0 t0 (0, 0))) (hb1 : w.heap[a1.block]? = some (.cells c1 t1 (0, 0))) (hb2 : w.heap[a2.block]? = some (.cells c2 t2 (0, 0))) :
    Calls Tryd.prog 5 #[] w fun e w' => e = .returned (.bool true) ∧ w' = w := by
  obtain ⟨i, hi, hcmp⟩ := Option.map_eq_some_iff.1 Tryd.comp25
  obtain ⟨j, hj, hjs⟩ := Option.map_eq_some_iff.1 Tryd.size43
  have e01 : (binOp .neq 34 (.iface 51 (.pointer (some a0))) (.iface 51 (.pointer (some a1)))).run Tryd.prog w = .ok (.bool true) w :=
    run_neq_iface_ptr_other w Tryd.underlying34 Tryd.underlying51 hi hcmp hj (by rw [hjs]; decide) h01 hb0 hb1
  have e12 : (binOp .neq 34 (.iface 51 (.pointer (some a1))) (.iface 51 (.pointer (some a2)))).run Tryd.prog w = .ok (.bool true) w :=
    run_neq_iface_ptr_other w Tryd.underlying34 Tryd.underlying51 hi hcmp hj (by rw [hjs]; decide) h12 hb1 hb2
  have e02 : (binOp .neq 34 (.iface 51 (.pointer (some a0))) (.iface 51 (.pointer (some a2)))).run Tryd.prog w = .ok (.bool true) w :=
    run_neq_iface_ptr_other w Tryd.underlying34 Tryd.underlying51 hi hcmp hj (by rw [hjs]; decide) h02 hb0 hb2
  clear hi hcmp hj hjs h01 h12 h02 hb0 hb1 hb2
  go_enter Tryd.func5, Tryd.ntmps5
  go_wp2
  go_ret
  exact ⟨rfl, rfl⟩

theorem names_walk (w : World) (a0 a1 a2 : Addr) (c0 c1 c2 : Array Value) (t0 t1 t2 : TypeId)
    (hc0 : w.cell? ⟨0, 0, none⟩ = some (.iface 51 (.pointer (some a0)))) (hc1 : w.cell? ⟨1, 0, none⟩ = some (.iface 51 (.pointer (some a1)))) (hc2 : w.cell? ⟨2, 0, none⟩ = some (.iface 51 (.pointer (some a2))))
    (h01 : a0 ≠ a1) (h12 : a1 ≠ a2) (h02 : a0 ≠ a2)
    (hb0 : w.heap[a0.block]? = some (.cells c0 t0 (0, 0))) (hb1 : w.heap[a1.block]? = some (.cells c1 t1 (0, 0))) (hb2 : w.heap[a2.block]? = some (.cells c2 t2 (0, 0))) :
    Calls Tryd.prog 3 #[] w fun e w' => e = .returned (.bool true) ∧ w' = w := by
  have hd : Hid (Calls Tryd.prog 5 #[] w fun e w' => e = .returned (.bool true) ∧ w' = w) := different w a0 a1 a2 c0 c1 c2 t0 t1 t2 hc0 hc1 hc2 h01 h12 h02 hb0 hb1 hb2
  clear hc0 hc1 hc2 h01 h12 h02 hb0 hb1 hb2
  go_enter Tryd.func3, Tryd.ntmps3
  go_wp2_with (go_at_call 5; refine hd.out.mono ?_; rintro e w' ⟨rfl, rfl⟩)
  go_ret
  exact ⟨rfl, rfl⟩

theorem own : ownKnob Tryd.prog.godebug = none := by kernel_rfl
theorem gLong : Tryd.prog.globalNamed "bidiguard/guard.ErrLong" = some 0 := by kernel_rfl
theorem gText : Tryd.prog.globalNamed "bidiguard/guard.ErrText" = some 1 := by kernel_rfl
theorem gCode : Tryd.prog.globalNamed "bidiguard/guard.ErrCode" = some 2 := by kernel_rfl
theorem tLong : (Tryd.prog.globals[0]?).map (·.type) = some 34 := by kernel_rfl
theorem tText : (Tryd.prog.globals[1]?).map (·.type) = some 34 := by kernel_rfl
theorem tCode : (Tryd.prog.globals[2]?).map (·.type) = some 34 := by kernel_rfl
theorem cells43 : Tryd.prog.cellsOf 71 = 1 := by kernel_rfl
theorem cells9 : Tryd.prog.cellsOf 9 = 1 := by kernel_rfl
theorem star : "*" ++ "errors.errorString" = "*errors.errorString" := by decide
theorem row25 (u : TypeId) (h : Tryd.prog.typeName? 3 u = some "*errors.errorString") : u = 51 :=
  typeName_ptr_named (nm := "errors.errorString") (by rw [star]; kernel_rfl) (by kernel_rfl) (by decide) u (by rw [star]; exact h)

/-- What the list gives: three variables, three pointers, each another. -/
theorem of_laid {W : World} (h : laidMetH Tryd.prog Rows.namesRow.laid W) :
    ∃ (a0 a1 a2 : Addr) (c0 c1 c2 : Array Value) (t0 t1 t2 : TypeId),
      W.cell? ⟨0, 0, none⟩ = some (.iface 51 (.pointer (some a0))) ∧ W.cell? ⟨1, 0, none⟩ = some (.iface 51 (.pointer (some a1))) ∧ W.cell? ⟨2, 0, none⟩ = some (.iface 51 (.pointer (some a2))) ∧
      a0 ≠ a1 ∧ a1 ≠ a2 ∧ a0 ≠ a2 ∧
      W.heap[a0.block]? = some (.cells c0 t0 (0, 0)) ∧ W.heap[a1.block]? = some (.cells c1 t1 (0, 0)) ∧ W.heap[a2.block]? = some (.cells c2 t2 (0, 0)) := by
  rw [MakeChecks.laidMetH_plain _ _ _ (by kernel_rfl)] at h
  obtain ⟨ps, ⟨g0, t0, cs0, f0, p0, q0, hg0, ht0, hv0, hd0, ⟨g1, t1, cs1, f1, p1, q1, hg1, ht1, hv1, hd1, ⟨g2, t2, cs2, f2, p2, q2, hg2, ht2, hv2, hd2, hq2, e2⟩, e1⟩, e0⟩, hnd, hrows⟩ := h
  obtain rfl := Option.some.inj (gLong.symm.trans hg0)
  obtain rfl := Option.some.inj (gText.symm.trans hg1)
  obtain rfl := Option.some.inj (gCode.symm.trans hg2)
  obtain rfl := Option.some.inj (tLong.symm.trans ht0)
  obtain rfl := Option.some.inj (tText.symm.trans ht1)
  obtain rfl := Option.some.inj (tCode.symm.trans ht2)
  have hq2' : q2 = [] := hq2
  subst hq2'
  subst e2
  subst e1
  subst e0
  obtain ⟨l0⟩ := cs0
  obtain ⟨l1⟩ := cs1
  obtain ⟨l2⟩ := cs2
  have ok0 : ∀ u v, l0 = [.iface u v] → Value.okWide Tryd.prog W .any 0 u v := fun u v e => by
    subst e
    exact (hrows 0 0 (by simp [MemPlace.row])).2 u v (by simpa using World.var?_cell hg0 hv0 0)
  have ok1 : ∀ u v, l1 = [.iface u v] → Value.okWide Tryd.prog W .any 0 u v := fun u v e => by
    subst e
    exact (hrows 1 0 (by simp [MemPlace.row])).2 u v (by simpa using World.var?_cell hg1 hv1 0)
  have ok2 : ∀ u v, l2 = [.iface u v] → Value.okWide Tryd.prog W .any 0 u v := fun u v e => by
    subst e
    exact (hrows 2 0 (by simp [MemPlace.row])).2 u v (by simpa using World.var?_cell hg2 hv2 0)
  obtain ⟨a0, s0, rfl, hc0, hs0, hz0, rfl⟩ := errorString_of_trod Tryd.underlying34 row25 Tryd.underlying51 Tryd.underlying71 rfl rfl Tryd.underlying9 cells43 cells9 hd0 ok0
  obtain ⟨a1, s1, rfl, hc1, hs1, hz1, rfl⟩ := errorString_of_trod Tryd.underlying34 row25 Tryd.underlying51 Tryd.underlying71 rfl rfl Tryd.underlying9 cells43 cells9 hd1 ok1
  obtain ⟨a2, s2, rfl, hc2, hs2, hz2, rfl⟩ := errorString_of_trod Tryd.underlying34 row25 Tryd.underlying51 Tryd.underlying71 rfl rfl Tryd.underlying9 cells43 cells9 hd2 ok2
  obtain ⟨c0, t0, hb0⟩ := (hrows a0.block a0.off (by simp [MemPlace.row])).1
  obtain ⟨c1, t1, hb1⟩ := (hrows a1.block a1.off (by simp [MemPlace.row])).1
  obtain ⟨c2, t2, hb2⟩ := (hrows a2.block a2.off (by simp [MemPlace.row])).1
  refine ⟨a0, a1, a2, c0, c1, c2, t0, t1, t2, by simpa using World.var?_cell hg0 hv0 0, by simpa using World.var?_cell hg1 hv1 0, by simpa using World.var?_cell hg2 hv2 0, ?_, ?_, ?_, hb0, hb1, hb2⟩
  · rintro rfl; simp [MemPlace.row] at hnd
  · rintro rfl; simp [MemPlace.row] at hnd
  · rintro rfl; simp [MemPlace.row] at hnd

theorem door_met (os : Os) (args : Array Value) : laidMetH Tryd.prog Rows.namesRow.laid ((World.doorLaid Tryd.prog 200 os).forCall (fun _ _ => 0) ⟨#[], args, []⟩).memory :=
  laidMetH_of_parts3 (fuel := 8) (laidMet_of_run' 8 (by kernel_rfl) (by kernel_rfl)) (by kernel_rfl) (by kernel_rfl)

set_option maxRecDepth 100000 in
theorem lifted (os : Os) (started : os.Started) (H : Type) (enc : TypeId × Value → H) :
    ReturnsInHanded {} Tryd.checked os 3 .any (fun w args => (Rows.namesSpec.pre enc Tryd.prog Tryd.f3 [] false w args ∧ laidMetH Tryd.prog Rows.namesRow.laid w) ∧ sizedMet enc Tryd.prog Tryd.f3 (OpenSpec.ofChange Rows.namesSpec) false w args)
      (Rows.namesSpec.post enc Tryd.prog Tryd.f3 false true false false) := by
  refine returnsInHanded_of_change_and (C := Tryd.checked) (X := fun w _ => laidMetH Tryd.prog Rows.namesRow.laid w) (fun _ _ _ hh h => h.of_heap hh) own started (by kernel_rfl) Tryd.func3
    (ChangeSpec.witness_shaped (enc := enc) (C := Tryd.checked) (os := os) (X := fun w _ => laidMetH Tryd.prog Rows.namesRow.laid w) false (World.doorLaid Tryd.prog 200 os) #[] 8 rfl (World.shaped_of_RefB (by kernel_rfl) (by kernel_rfl)) (by kernel_rfl) (by kernel_rfl) (by kernel_rfl) (door_met os _)) ?_
  intro W base args ds gs before hval0 hW _ _ hL _
  have hW' := hW
  obtain ⟨p, q, hA0, hV, rfl, hfz, hnd⟩ := hW
  have hA : DataW.TrodAll enc Tryd.prog W 0 (fun _ => true) true Tryd.f3.params.toList args.toList ds p := hA0
  rw [Tryd.params3] at hA
  obtain ⟨hargs, rfl, rfl⟩ := trodAll_none hA
  obtain rfl : args = #[] := by first | exact hargs | (cases args; simp_all)
  obtain ⟨rfl, rfl⟩ := trodVars_none hV
  obtain ⟨a0, a1, a2, c0, c1, c2, t0, t1, t2, hc0, hc1, hc2, h01, h12, h02, hb0, hb1, hb2⟩ := of_laid hL
  clear hA0 hval0
  simp only [List.append_nil] at hW'
  refine (names_walk W a0 a1 a2 c0 c1 c2 t0 t1 t2 hc0 hc1 hc2 h01 h12 h02 hb0 hb1 hb2).mono fun e W' ⟨he, hw⟩ => ?_
  subst he; subst hw
  exact ⟨_, rfl, post_of_same (pa := []) (pv := []) hW' (fun _ _ _ => trodAll_mk1 (shut_bool Tryd.underlying4 _)) (fun _ _ => trodAll_mk0) (fun _ _ => rfl) rfl (World.keptBut_refl _ _) (fun _ => rfl) (ok_one (by kernel_rfl) rfl (okWide_bool_mk Tryd.underlying4 _))⟩

theorem names_said : Rows.NamesSaid :=
  OpenClaim.holds_of_wide 3 Tryd.f3 rfl rfl rfl rfl rfl rfl rfl ⟨rfl, rfl, rfl, rfl, rfl⟩ rfl rfl rfl rfl rfl (by kernel_rfl) Tryd.func3 (by kernel_rfl)
    (of_decide_eq_true (by kernel_rfl)) (by unfold Func.isWrapper; first | (rw [if_pos (by decide +kernel)]; kernel_rfl) | (rw [if_neg (by decide +kernel)]; exact ⟨rfl, rfl⟩))
    (fun os started H enc _ => lifted os started H enc)

theorem names_plain (f : FuncId) (fn : Func) (hf : Tryd.pinned.checked.prog.funcNamed "bidiguard/bidiguardlaw.Names" = some f) (hfn : Tryd.pinned.checked.prog.funcs[f]? = some fn) :
    true = Tryd.pinned.checked.prog.looks [] ∧ ∀ (j : Nat) t, fn.params[j]? = some t → Tryd.pinned.checked.prog.wantsStandIn t = false := by
  obtain rfl : f = 3 := Option.some.inj ((show Tryd.prog.funcNamed "bidiguard/bidiguardlaw.Names" = some 3 by kernel_rfl).symm.trans hf) |>.symm
  obtain rfl : fn = Tryd.f3 := (Option.some.inj (Tryd.func3.symm.trans hfn)).symm
  refine ⟨by kernel_rfl, fun j t ht => ?_⟩
  rw [Tryd.params3] at ht
  simp at ht

theorem names_card : Rows.NamesCardSaid :=
  Claim7.holds_tied_plain_at .later [] _ _ _ _ names_said (fun _ h => by cases h) (by kernel_rfl) (fun _ h => by cases h) names_row_tie rfl ⟨rfl, rfl⟩ (by kernel_rfl) rfl names_plain (by kernel_rfl)
#print axioms names_card
end Go.Proofs.YtkbinfhclaafhaaDoor
