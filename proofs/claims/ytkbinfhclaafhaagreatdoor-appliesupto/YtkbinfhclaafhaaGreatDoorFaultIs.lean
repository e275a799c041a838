import Derived.Test.YtkbinfhclaafhaaGreatDoorFaultFacts
namespace Go.Proofs.YtkbinfhclaafhaaGreatDoor
open Go.RowKit Go.Extern.Stop Go.Stop Go.Extern

theorem Tryz.compS : (Tryz.prog.info? 354).map (·.comparable) = some true := by kernel_rfl
theorem Tryz.sizeS : (Tryz.prog.info? 372).map (·.size) = some 1 := by kernel_rfl

theorem Tryz.comparableS2 (w : World) : (ReflectliteType.method (fun t => do Rtype.noPackHeld "Comparable" t; (fun a : TypeInfo => Value.bool a.comparable) <$> typeInfo t) #[.agg #[.pointer (some ⟨16, 354, none⟩)]]).run Tryz.prog w = .ok (.bool true) w := by kernel_rfl
set_option maxRecDepth 100000 in
set_option maxHeartbeats 4000000 in
theorem is_any (a b : Addr) (q : Bool) (w : World)
    (he : (binOp .eql 53 (.iface 354 (.pointer (some a))) (.iface 354 (.pointer (some b)))).run Tryz.prog w = .ok (.bool q) w) :
    Calls Tryz.prog 58 #[.iface 354 (.pointer (some a)), .iface 354 (.pointer (some b))] w fun ev w' => ev = .returned (.bool q) ∧ w' = w := by
  have h10 := @run_callFunc_extern Tryz.prog 94 _ ReflectliteType.typeOf Tryz.func94 (by kernel_rfl) (by kernel_rfl) (by kernel_rfl) (by kernel_rfl)
  have h11 := @run_callFunc_extern Tryz.prog 333 _ (ReflectliteType.method fun t => do Rtype.noPackHeld "Comparable" t; pure (.bool (← typeInfo t).comparable)) Tryz.func333 (by kernel_rfl) (by kernel_rfl) (by kernel_rfl) (by kernel_rfl)
  have tO := Tryz.typeOfS
  have mC := Tryz.methodComparable
  have cS := Tryz.comparableS2
  have q1 := Tryz.noIs
  have q2 := Tryz.noUnwrap
  have q3 := Tryz.noUnwraps
  cases q
  · go_enter Tryz.func58, Tryz.ntmps58
    go_wp2
    refine wp_loop_rounds 1 ?_
    rw [rounds_succ]
    go_wp2
    go_ret
    exact ⟨rfl, rfl⟩
  · go_enter Tryz.func58, Tryz.ntmps58
    go_wp2
    refine wp_loop_rounds 1 ?_
    rw [rounds_succ]
    go_wp2
    go_ret
    exact ⟨rfl, rfl⟩
theorem is_same (a : Addr) (w : World) :
    Calls Tryz.prog 58 #[.iface 354 (.pointer (some a)), .iface 354 (.pointer (some a))] w fun ev w' => ev = .returned (.bool true) ∧ w' = w := by
  obtain ⟨i, hi, hcmp⟩ := Option.map_eq_some_iff.1 Tryz.compS
  obtain ⟨j, hj, _⟩ := Option.map_eq_some_iff.1 Tryz.sizeS
  exact is_any a a true w (run_eql_iface_ptr_same w a Tryz.underlying53 Tryz.underlying354 hi hcmp hj)
theorem is_other (a b : Addr) (w : World) (hne : a ≠ b) (ha : ∃ c t, w.heap[a.block]? = some (.cells c t (0, 0))) (hb : ∃ c t, w.heap[b.block]? = some (.cells c t (0, 0))) :
    Calls Tryz.prog 58 #[.iface 354 (.pointer (some a)), .iface 354 (.pointer (some b))] w fun ev w' => ev = .returned (.bool false) ∧ w' = w := by
  obtain ⟨i, hi, hcmp⟩ := Option.map_eq_some_iff.1 Tryz.compS
  obtain ⟨j, hj, hjs⟩ := Option.map_eq_some_iff.1 Tryz.sizeS
  obtain ⟨_, _, ha⟩ := ha
  obtain ⟨_, _, hb⟩ := hb
  exact is_any a b false w (run_eql_iface_ptr_other w Tryz.underlying53 Tryz.underlying354 hi hcmp hj (by rw [hjs]; decide) hne ha hb)
end Go.Proofs.YtkbinfhclaafhaaGreatDoor
