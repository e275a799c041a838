import Derived.Test.YtkbinfhclaafhaaGreatDoorM24
import Derived.LaidEql
import Derived.Stop.Asserts
import Derived.RowKitTokens
import Derived.Lib.OthersKept
import Derived.Test.YtkbinfhclaafhaaGreatDoorCards
import Derived.Test.YtkbinfhclaafhaaGreatDoorTie
import Derived.ProofKit
import Derived.OpenShut
import Derived.LaidMore
import Derived.LaidLaws
import Derived.LaidHandle
import Derived.LaidSub
import Derived.Lib.LaidU8T
import Derived.Lib.SmallJoins
import Derived.Deep.Slices
import Derived.Deep.Strs
import Derived.Stop.Joined
import Derived.SizedLaws
import Derived.Test.YtkbinfhclaafhaaGreatDoorRows
import Derived.Test.YtkbinfhclaafhaaGreatDoorShelfC
import Derived.Lib.LaidCaseMet
import Derived.PinnedBridge
import Derived.Lib.LaidIn
import Derived.Deep.DeepLaidRun
import Derived.Test.YtkbinfhclaafhaaGreatDoorM13
namespace Go.Proofs.YtkbinfhclaafhaaGreatDoor
open Go.RowKit Go.Extern.Stop Go.Stop Go.Extern
theorem Tryz.valueOfT (t : Addr) (w : World) : (ReflectliteValue.unpack (.iface 94 (.pointer (some t)))).run Tryz.prog w
  = .ok (.agg #[.pointer (some ⟨16, 94, none⟩), .pointer (some ⟨w.heap.size, 0, none⟩), .int .u64 150]) (w.alloc (.cells #[.pointer (some t)] 94)) := by kernel_rfl
theorem Tryz.typeT (a : Addr) (w : World) : (ReflectliteValue.methodAny (ReflectliteValue.valueError "reflectlite.Value.Type" 0) (fun t _ _ _ => ReflectliteType.toType t) #[.agg #[.pointer (some ⟨16, 94, none⟩), .pointer (some a), .int .u64 150]]).run Tryz.prog w
  = .ok (.iface 223 (.agg #[.pointer (some ⟨16, 94, none⟩)])) w := by kernel_rfl
theorem Tryz.kindT (w : World) : ((ReflectliteType.abiMethod fun t => (fun a : Nat => Value.int IntKind.u8 (a : Int)) <$> Rtype.kind t) #[.pointer (some ⟨16, 94, none⟩)]).run Tryz.prog w = .ok (.int .u8 22) w := by kernel_rfl
theorem Tryz.kindE (w : World) : ((ReflectliteType.abiMethod fun t => (fun a : Nat => Value.int IntKind.u8 (a : Int)) <$> Rtype.kind t) #[.pointer (some ⟨16, 92, none⟩)]).run Tryz.prog w = .ok (.int .u8 22) w := by kernel_rfl
theorem rlm (z : Sem Value) (f : TypeId → Addr → Nat → Nat → Sem Value) (v : Value) :
  ReflectliteValue.method z f #[v] = (do match ← ReflectliteValue.parts v with | none => z | some (t, a, fl) => f t a fl (fl % 32)) := rfl
theorem Tryz.partsT (a : Addr) (w : World) : (ReflectliteValue.parts (.agg #[.pointer (some ⟨16, 94, none⟩), .pointer (some a), .int .u64 150])).run Tryz.prog w = .ok (some (94, a, 150)) w := by kernel_rfl
theorem Tryz.isNilT (a p : Addr) (W : World) (ha : W.cell? a = some (.pointer (some p))) :
  (ReflectliteValue.method (ReflectliteValue.valueError "reflectlite.Value.IsNil" 0) ReflectliteValue.isNil #[.agg #[.pointer (some ⟨16, 94, none⟩), .pointer (some a), .int .u64 150]]).run Tryz.prog W = .ok (.bool false) W := by
 rw [rlm]
 simp only [Sem.run_bind, Tryz.partsT, Result.andThen]
 simp [ReflectliteValue.isNil, loadVar, isAgg, underlying, Tryz.underlying94, ha, Result.andThen]
theorem Tryz.elemT (w : World) : (ReflectliteType.method ReflectliteType.elem #[.agg #[.pointer (some ⟨16, 94, none⟩)]]).run Tryz.prog w = .ok (.iface 223 (.agg #[.pointer (some ⟨16, 92, none⟩)])) w := by kernel_rfl
theorem Tryz.implE (w : World) : (ReflectliteType.relation "Implements" ReflectliteType.implements_ #[.agg #[.pointer (some ⟨16, 92, none⟩)], .iface 223 (.agg #[.pointer (some ⟨16, 53, none⟩)])]).run Tryz.prog w = .ok (.bool true) w := by kernel_rfl
theorem Tryz.typeOfS (v : Value) (w : World) : (ReflectliteType.typeOf #[.iface 354 v]).run Tryz.prog w = .ok (.iface 223 (.agg #[.pointer (some ⟨16, 354, none⟩)])) w := by kernel_rfl
theorem Tryz.assignS (w : World) : (ReflectliteType.relation "AssignableTo" ReflectliteType.assignableTo #[.agg #[.pointer (some ⟨16, 354, none⟩)], .iface 223 (.agg #[.pointer (some ⟨16, 92, none⟩)])]).run Tryz.prog w = .ok (.bool false) w := by kernel_rfl
theorem Tryz.methodKind (h : Value) (w : World) : (Go.method 483 223 (.agg #[h]) "Kind").run Tryz.prog w = .ok (323, h) w := by kernel_rfl
theorem Tryz.methodElem (h : Value) (w : World) : (Go.method 483 223 (.agg #[h]) "Elem").run Tryz.prog w = .ok (334, .agg #[h]) w := by kernel_rfl
theorem Tryz.methodImplements (h : Value) (w : World) : (Go.method 483 223 (.agg #[h]) "Implements").run Tryz.prog w = .ok (335, .agg #[h]) w := by kernel_rfl
theorem Tryz.methodAssignableTo (h : Value) (w : World) : (Go.method 483 223 (.agg #[h]) "AssignableTo").run Tryz.prog w = .ok (332, .agg #[h]) w := by kernel_rfl
theorem Tryz.methodComparable (h : Value) (w : World) : (Go.method 483 223 (.agg #[h]) "Comparable").run Tryz.prog w = .ok (333, .agg #[h]) w := by kernel_rfl
theorem Tryz.noAs (v : Value) (xT : TypeId) (w : World) : (Instr.typeAssert (.iface 354 v) xT 227 true).run Tryz.prog w = .ok (.tuple #[.nilIface, .bool false]) w := run_typeAssert_lacksB Tryz.underlying227 (by kernel_rfl) (by kernel_rfl) v xT w
theorem Tryz.noIs (v : Value) (xT : TypeId) (w : World) : (Instr.typeAssert (.iface 354 v) xT 233 true).run Tryz.prog w = .ok (.tuple #[.nilIface, .bool false]) w := run_typeAssert_lacksB Tryz.underlying233 (by kernel_rfl) (by kernel_rfl) v xT w
theorem Tryz.noUnwrap (v : Value) (xT : TypeId) (w : World) : (Instr.typeAssert (.iface 354 v) xT 230 true).run Tryz.prog w = .ok (.tuple #[.nilIface, .bool false]) w := run_typeAssert_lacksB Tryz.underlying230 (by kernel_rfl) (by kernel_rfl) v xT w
theorem Tryz.noUnwraps (v : Value) (xT : TypeId) (w : World) : (Instr.typeAssert (.iface 354 v) xT 231 true).run Tryz.prog w = .ok (.tuple #[.nilIface, .bool false]) w := run_typeAssert_lacksB Tryz.underlying231 (by kernel_rfl) (by kernel_rfl) v xT w
end Go.Proofs.YtkbinfhclaafhaaGreatDoor
namespace Go.Proofs.YtkbinfhclaafhaaGreatDoor
open Go.RowKit Go.Extern.Stop Go.Stop Go.Extern
set_option maxRecDepth 100000 in
set_option maxHeartbeats 4000000 in
theorem as_miss (e t : Addr) (w : World) (hg : w.cell? ⟨3, 0, none⟩ = some (.iface 223 (.agg #[.pointer (some ⟨16, 53, none⟩)]))) :
  Calls Tryz.prog 56 #[.iface 354 (.pointer (some e)), .iface 94 (.pointer (some t))] w fun ev w' => ev = .returned (.bool false) ∧ Below w.heap.size w w' := by
 have h6 := @run_callFunc_extern Tryz.prog 90 _ (fun args => ReflectliteValue.unpack (args.getD 0 (.tuple #[]))) Tryz.func90 (by kernel_rfl) (by kernel_rfl) (by kernel_rfl) (by kernel_rfl)
 have h7 := @run_callFunc_extern Tryz.prog 91 _ (ReflectliteValue.methodAny (ReflectliteValue.valueError "reflectlite.Value.Type" 0) (fun t _ _ _ => ReflectliteType.toType t)) Tryz.func91 (by kernel_rfl) (by kernel_rfl) (by kernel_rfl) (by kernel_rfl)
 have h8 := @run_callFunc_extern Tryz.prog 92 _ (ReflectliteValue.method (ReflectliteValue.valueError "reflectlite.Value.IsNil" 0) ReflectliteValue.isNil) Tryz.func92 (by kernel_rfl) (by kernel_rfl) (by kernel_rfl) (by kernel_rfl)
 have h27 := @run_callFunc_extern Tryz.prog 323 _ (ReflectliteType.abiMethod fun t => do pure (.int .u8 (← Rtype.kind t))) Tryz.func323 (by kernel_rfl) (by kernel_rfl) (by kernel_rfl) (by kernel_rfl)
 have h37 := @run_callFunc_extern Tryz.prog 334 _ (ReflectliteType.method ReflectliteType.elem) Tryz.func334 (by kernel_rfl) (by kernel_rfl) (by kernel_rfl) (by kernel_rfl)
 have h38 := @run_callFunc_extern Tryz.prog 335 _ (ReflectliteType.relation "Implements" ReflectliteType.implements_) Tryz.func335 (by kernel_rfl) (by kernel_rfl) (by kernel_rfl) (by kernel_rfl)
 have h10 := @run_callFunc_extern Tryz.prog 94 _ ReflectliteType.typeOf Tryz.func94 (by kernel_rfl) (by kernel_rfl) (by kernel_rfl) (by kernel_rfl)
 have h35 := @run_callFunc_extern Tryz.prog 332 _ (ReflectliteType.relation "AssignableTo" ReflectliteType.assignableTo) Tryz.func332 (by kernel_rfl) (by kernel_rfl) (by kernel_rfl) (by kernel_rfl)
 have tO := Tryz.typeOfS
 have a25 := Tryz.assignS
 have f6 := Tryz.valueOfT
 have q1 := Tryz.noAs
 have q2 := Tryz.noUnwrap
 have q3 := Tryz.noUnwraps
 have mK := Tryz.methodKind
 have mE := Tryz.methodElem
 have mI := Tryz.methodImplements
 have mA := Tryz.methodAssignableTo
 have f7 := Tryz.typeT
 have k27 := Tryz.kindT
 have k25 := Tryz.kindE
 have e27 := Tryz.elemT
 have i25 := Tryz.implE
 have n8 := Tryz.isNilT ⟨w.heap.size, 0, none⟩ t ((w.alloc (.cells #[.pointer (some t)] 94)).alloc (.cells #[.pointer (some ⟨16, 94, none⟩), .pointer (some ⟨w.heap.size, 0, none⟩), .int .u64 150] 152)) (by simp)
 have hlt : 3 < w.heap.size := by
  rcases Nat.lt_or_ge 3 w.heap.size with h | h
  ·exact h
  ·simp [World.cell?, Array.getElem?_eq_none h] at hg
 have hg2 : ((w.alloc (.cells #[.pointer (some t)] 94)).alloc (.cells #[.pointer (some ⟨16, 94, none⟩), .pointer (some ⟨w.heap.size, 0, none⟩), .int .u64 150] 152)).cell? ⟨3, 0, none⟩ = some (.iface 223 (.agg #[.pointer (some ⟨16, 53, none⟩)])) := by
  rw [World.cell?_alloc_lt _ _ ⟨3, 0, none⟩ (by simp; omega), World.cell?_alloc_lt _ _ ⟨3, 0, none⟩ hlt]; exact hg
 go_enter Tryz.func56, Tryz.ntmps56
 go_wp2
 refine wp_loop_rounds 1 ?_
 rw [rounds_succ]
 go_wp2
 go_ret
 exact ⟨rfl, (((Below.refl _ _).alloc (Nat.le_refl _) _).alloc (by simp) _).alloc (by simp; omega) _⟩
end Go.Proofs.YtkbinfhclaafhaaGreatDoor
namespace Go.Proofs.YtkbinfhclaafhaaGreatDoor
open Go.RowKit Go.Extern.Stop Go.Stop Go.Extern
theorem Tryz.compS : (Tryz.prog.info? 354).map (·.comparable) = some true := by kernel_rfl
theorem Tryz.sizeS : (Tryz.prog.info? 372).map (·.size) = some 1 := by kernel_rfl
theorem Tryz.comparableS2 (w : World) : (ReflectliteType.method (fun t => do Rtype.noPackHeld "Comparable" t; (fun a : TypeInfo => Value.bool a.comparable) <$> typeInfo t) #[.agg #[.pointer (some ⟨16, 354, none⟩)]]).run Tryz.prog w = .ok (.bool true) w := by kernel_rfl
set_option maxRecDepth 100000 in
set_option maxHeartbeats 4000000 in
theorem is_any (a b : Addr) (q : Bool) (w : World)
  (he : (binOp .eql 53 (.iface 354 (.pointer (some a))) (.iface 354 (.pointer (some b)))).run Tryz.prog w = .ok (.bool q) w) :
  Calls Tryz.prog 58 #[.iface 354 (.pointer (some a)), .iface 354 (.pointer (some b))] w fun ev w' => ev = .returned (.bool q) ∧ w' = w := by
 have h10 := @run_callFunc_extern Tryz.prog 94 _ ReflectliteType.typeOf Tryz.func94 (by kernel_rfl) (by kernel_rfl) (by kernel_rfl) (by kernel_rfl)
 have h11 := @run_callFunc_extern Tryz.prog 333 _ (ReflectliteType.method fun t => do Rtype.noPackHeld "Comparable" t; pure (.bool (← typeInfo t).comparable)) Tryz.func333 (by kernel_rfl) (by kernel_rfl) (by kernel_rfl) (by kernel_rfl)
 have tO := Tryz.typeOfS
 have mC := Tryz.methodComparable
 have cS := Tryz.comparableS2
 have q1 := Tryz.noIs
 have q2 := Tryz.noUnwrap
 have q3 := Tryz.noUnwraps
 cases q
 ·go_enter Tryz.func58, Tryz.ntmps58
  go_wp2
  refine wp_loop_rounds 1 ?_
  rw [rounds_succ]
  go_wp2
  go_ret
  exact ⟨rfl, rfl⟩
 ·go_enter Tryz.func58, Tryz.ntmps58
  go_wp2
  refine wp_loop_rounds 1 ?_
  rw [rounds_succ]
  go_wp2
  go_ret
  exact ⟨rfl, rfl⟩
theorem is_same (a : Addr) (w : World) :
  Calls Tryz.prog 58 #[.iface 354 (.pointer (some a)), .iface 354 (.pointer (some a))] w fun ev w' => ev = .returned (.bool true) ∧ w' = w := by
 obtain ⟨i, hi, hcmp⟩ := Option.map_eq_some_iff.1 Tryz.compS
 obtain ⟨j, hj, _⟩ := Option.map_eq_some_iff.1 Tryz.sizeS
 exact is_any a a true w (run_eql_iface_ptr_same w a Tryz.underlying53 Tryz.underlying354 hi hcmp hj)
theorem is_other (a b : Addr) (w : World) (hne : a ≠ b) (ha : ∃ c t, w.heap[a.block]? = some (.cells c t (0, 0))) (hb : ∃ c t, w.heap[b.block]? = some (.cells c t (0, 0))) :
  Calls Tryz.prog 58 #[.iface 354 (.pointer (some a)), .iface 354 (.pointer (some b))] w fun ev w' => ev = .returned (.bool false) ∧ w' = w := by
 obtain ⟨i, hi, hcmp⟩ := Option.map_eq_some_iff.1 Tryz.compS
 obtain ⟨j, hj, hjs⟩ := Option.map_eq_some_iff.1 Tryz.sizeS
 obtain ⟨_, _, ha⟩ := ha
 obtain ⟨_, _, hb⟩ := hb
 exact is_any a b false w (run_eql_iface_ptr_other w Tryz.underlying53 Tryz.underlying354 hi hcmp hj (by rw [hjs]; decide) hne ha hb)
end Go.Proofs.YtkbinfhclaafhaaGreatDoor
namespace Go.Proofs.YtkbinfhclaafhaaGreatDoor
open Go.RowKit
set_option maxHeartbeats 1000000 in
theorem fault_nil (w : World) : Calls Tryz.prog 36 #[.nilIface] w fun e w' => e = .returned (faultV 0) ∧ Below w.heap.size w w' := by
 go_enter Tryz.func36, Tryz.ntmps36
 go_wp2
 exact bodyPost_ret (v := .agg #[.int .i64 0, .int .i64 0, .int .i64 0]) (by simp [results, Tryz.results36, go_sem]) rfl ⟨rfl, (Below.refl _ _).alloc (Nat.le_refl _) _⟩
set_option maxRecDepth 100000 in
set_option maxHeartbeats 4000000 in
theorem fault_long (w : World) (aL aT aC : Addr) (hE : Env w aL aT aC) : Calls Tryz.prog 36 #[.iface 354 (.pointer (some aL))] w fun e w' => e = .returned (faultV 1) ∧ Below w.heap.size w w' := by
 have HE : Hid (Env w aL aT aC) := hE
 clear hE
 go_enter Tryz.func36, Tryz.ntmps36
 go_wp2_with fail
 refine (as_miss _ _ _ ?_).mono ?_
 ·exact (HE.out.below ((((Below.refl _ _).alloc (Nat.le_refl _) _).alloc (by simp) _).alloc (by simp; omega) _)).etype
 rintro e w1 ⟨rfl, hb⟩
 have hB1 : Below w.heap.size w w1 := ((((Below.refl _ _).alloc (Nat.le_refl _) _).alloc (by simp) _).alloc (by simp; omega) _).trans (hb.mono (by simp; omega))
 have HB1 : Hid (Below w.heap.size w w1) := hB1
 have hz : w.heap.size + 3 ≤ w1.heap.size := by have := hb.size; simp at this; omega
 have HE1 : Hid (Env w1 aL aT aC) := HE.out.below hB1
 have hl := HE1.out.long
 have ht := HE1.out.text
 have hco := HE1.out.code
 have r0 : w1.cell? ⟨w.heap.size, 0, none⟩ = some (.int .i64 0) := by rw [hb.cell (p := ⟨w.heap.size, 0, none⟩) (by simp <;> omega)]; go_simp
 have s0 : w1.frozen? ⟨w.heap.size, 0, none⟩ = false := by rw [hb.frozen (p := ⟨w.heap.size, 0, none⟩) (by simp <;> omega)]; go_simp
 have f0 : w1.cell? ⟨w.heap.size + 1, 0, none⟩ = some (.int .i64 4) := by rw [hb.cell (p := ⟨w.heap.size + 1, 0, none⟩) (by simp <;> omega)]; go_simp
 have r1 : w1.cell? ⟨w.heap.size, 1, none⟩ = some (.int .i64 0) := by rw [hb.cell (p := ⟨w.heap.size, 1, none⟩) (by simp <;> omega)]; go_simp
 have s1 : w1.frozen? ⟨w.heap.size, 1, none⟩ = false := by rw [hb.frozen (p := ⟨w.heap.size, 1, none⟩) (by simp <;> omega)]; go_simp
 have f1 : w1.cell? ⟨w.heap.size + 1, 1, none⟩ = some (.int .i64 (-1)) := by rw [hb.cell (p := ⟨w.heap.size + 1, 1, none⟩) (by simp <;> omega)]; go_simp
 have r2 : w1.cell? ⟨w.heap.size, 2, none⟩ = some (.int .i64 0) := by rw [hb.cell (p := ⟨w.heap.size, 2, none⟩) (by simp <;> omega)]; go_simp
 have s2 : w1.frozen? ⟨w.heap.size, 2, none⟩ = false := by rw [hb.frozen (p := ⟨w.heap.size, 2, none⟩) (by simp <;> omega)]; go_simp
 have f2 : w1.cell? ⟨w.heap.size + 1, 2, none⟩ = some (.int .i64 (-1)) := by rw [hb.cell (p := ⟨w.heap.size + 1, 2, none⟩) (by simp <;> omega)]; go_simp
 have g0 : w1.frozen? ⟨w.heap.size + 1, 0, none⟩ = false := by rw [hb.frozen (p := ⟨w.heap.size + 1, 0, none⟩) (by simp <;> omega)]; go_simp
 have h0 : w.heap.size < w1.heap.size := by omega
 have h1 : w.heap.size + 1 < w1.heap.size := by omega
 clear hB1 hb hz
 go_wp2
 refine wp_loop_rounds 4 ?_
 rw [rounds_succ]
 go_wp2_with fail
 refine (is_same aL _).mono ?_
 rintro e w2 ⟨rfl, rfl⟩
 go_wp2
 rw [rounds_succ]
 go_wp2_with fail
 refine (is_other aL aT _ HE.out.neLT ?_ ?_).mono ?_
 ·exact (HE.out.below ((HB1.out.setCell (Nat.le_succ _) _).alloc (by simp; omega) _)).blkL
 ·exact (HE.out.below ((HB1.out.setCell (Nat.le_succ _) _).alloc (by simp; omega) _)).blkT
 rintro e w3 ⟨rfl, rfl⟩
 go_wp2
 rw [rounds_succ]
 go_wp2_with fail
 refine (is_other aL aC _ HE.out.neLC ?_ ?_).mono ?_
 ·exact (HE.out.below ((HB1.out.setCell (Nat.le_succ _) _).alloc (by simp; omega) _)).blkL
 ·exact (HE.out.below ((HB1.out.setCell (Nat.le_succ _) _).alloc (by simp; omega) _)).blkC
 rintro e w4 ⟨rfl, rfl⟩
 go_wp2
 rw [rounds_succ]
 go_wp2
 refine bodyPost_ret (v := .agg #[.int .i64 1, .int .i64 (-1), .int .i64 (-1)]) (by simp [results, Tryz.results36, go_sem, r0, r1, r2, h0]) rfl ⟨rfl, ?_⟩
 exact ((((HB1.out.setCell (Nat.le_succ _) _).setCell (Nat.le_refl _) _).setCell (Nat.le_refl _) _).setCell (Nat.le_refl _) _).alloc (by simp; omega) _
set_option maxRecDepth 100000 in
set_option maxHeartbeats 4000000 in
theorem fault_text (w : World) (aL aT aC : Addr) (hE : Env w aL aT aC) : Calls Tryz.prog 36 #[.iface 354 (.pointer (some aT))] w fun e w' => e = .returned (faultV 2) ∧ Below w.heap.size w w' := by
 have HE : Hid (Env w aL aT aC) := hE
 clear hE
 go_enter Tryz.func36, Tryz.ntmps36
 go_wp2_with fail
 refine (as_miss _ _ _ ?_).mono ?_
 ·exact (HE.out.below ((((Below.refl _ _).alloc (Nat.le_refl _) _).alloc (by simp) _).alloc (by simp; omega) _)).etype
 rintro e w1 ⟨rfl, hb⟩
 have hB1 : Below w.heap.size w w1 := ((((Below.refl _ _).alloc (Nat.le_refl _) _).alloc (by simp) _).alloc (by simp; omega) _).trans (hb.mono (by simp; omega))
 have HB1 : Hid (Below w.heap.size w w1) := hB1
 have hz : w.heap.size + 3 ≤ w1.heap.size := by have := hb.size; simp at this; omega
 have HE1 : Hid (Env w1 aL aT aC) := HE.out.below hB1
 have hl := HE1.out.long
 have ht := HE1.out.text
 have hco := HE1.out.code
 have r0 : w1.cell? ⟨w.heap.size, 0, none⟩ = some (.int .i64 0) := by rw [hb.cell (p := ⟨w.heap.size, 0, none⟩) (by simp <;> omega)]; go_simp
 have s0 : w1.frozen? ⟨w.heap.size, 0, none⟩ = false := by rw [hb.frozen (p := ⟨w.heap.size, 0, none⟩) (by simp <;> omega)]; go_simp
 have f0 : w1.cell? ⟨w.heap.size + 1, 0, none⟩ = some (.int .i64 4) := by rw [hb.cell (p := ⟨w.heap.size + 1, 0, none⟩) (by simp <;> omega)]; go_simp
 have r1 : w1.cell? ⟨w.heap.size, 1, none⟩ = some (.int .i64 0) := by rw [hb.cell (p := ⟨w.heap.size, 1, none⟩) (by simp <;> omega)]; go_simp
 have s1 : w1.frozen? ⟨w.heap.size, 1, none⟩ = false := by rw [hb.frozen (p := ⟨w.heap.size, 1, none⟩) (by simp <;> omega)]; go_simp
 have f1 : w1.cell? ⟨w.heap.size + 1, 1, none⟩ = some (.int .i64 (-1)) := by rw [hb.cell (p := ⟨w.heap.size + 1, 1, none⟩) (by simp <;> omega)]; go_simp
 have r2 : w1.cell? ⟨w.heap.size, 2, none⟩ = some (.int .i64 0) := by rw [hb.cell (p := ⟨w.heap.size, 2, none⟩) (by simp <;> omega)]; go_simp
 have s2 : w1.frozen? ⟨w.heap.size, 2, none⟩ = false := by rw [hb.frozen (p := ⟨w.heap.size, 2, none⟩) (by simp <;> omega)]; go_simp
 have f2 : w1.cell? ⟨w.heap.size + 1, 2, none⟩ = some (.int .i64 (-1)) := by rw [hb.cell (p := ⟨w.heap.size + 1, 2, none⟩) (by simp <;> omega)]; go_simp
 have g0 : w1.frozen? ⟨w.heap.size + 1, 0, none⟩ = false := by rw [hb.frozen (p := ⟨w.heap.size + 1, 0, none⟩) (by simp <;> omega)]; go_simp
 have h0 : w.heap.size < w1.heap.size := by omega
 have h1 : w.heap.size + 1 < w1.heap.size := by omega
 clear hB1 hb hz
 go_wp2
 refine wp_loop_rounds 4 ?_
 rw [rounds_succ]
 go_wp2_with fail
 refine (is_other aT aL _ HE.out.neLT.symm ?_ ?_).mono ?_
 ·exact (HE.out.below (HB1.out.alloc (by omega) _)).blkT
 ·exact (HE.out.below (HB1.out.alloc (by omega) _)).blkL
 rintro e w2 ⟨rfl, rfl⟩
 go_wp2
 rw [rounds_succ]
 go_wp2_with fail
 refine (is_same aT _).mono ?_
 rintro e w3 ⟨rfl, rfl⟩
 go_wp2
 rw [rounds_succ]
 go_wp2_with fail
 refine (is_other aT aC _ HE.out.neTC ?_ ?_).mono ?_
 ·exact (HE.out.below ((HB1.out.setCell (Nat.le_succ _) _).alloc (by simp; omega) _)).blkT
 ·exact (HE.out.below ((HB1.out.setCell (Nat.le_succ _) _).alloc (by simp; omega) _)).blkC
 rintro e w4 ⟨rfl, rfl⟩
 go_wp2
 rw [rounds_succ]
 go_wp2
 refine bodyPost_ret (v := .agg #[.int .i64 2, .int .i64 (-1), .int .i64 (-1)]) (by simp [results, Tryz.results36, go_sem, r0, r1, r2, h0]) rfl ⟨rfl, ?_⟩
 exact ((((HB1.out.setCell (Nat.le_succ _) _).setCell (Nat.le_refl _) _).setCell (Nat.le_refl _) _).setCell (Nat.le_refl _) _).alloc (by simp; omega) _
set_option maxRecDepth 100000 in
set_option maxHeartbeats 4000000 in
theorem fault_code (w : World) (aL aT aC : Addr) (hE : Env w aL aT aC) : Calls Tryz.prog 36 #[.iface 354 (.pointer (some aC))] w fun e w' => e = .returned (faultV 3) ∧ Below w.heap.size w w' := by
 have HE : Hid (Env w aL aT aC) := hE
 clear hE
 go_enter Tryz.func36, Tryz.ntmps36
 go_wp2_with fail
 refine (as_miss _ _ _ ?_).mono ?_
 ·exact (HE.out.below ((((Below.refl _ _).alloc (Nat.le_refl _) _).alloc (by simp) _).alloc (by simp; omega) _)).etype
 rintro e w1 ⟨rfl, hb⟩
 have hB1 : Below w.heap.size w w1 := ((((Below.refl _ _).alloc (Nat.le_refl _) _).alloc (by simp) _).alloc (by simp; omega) _).trans (hb.mono (by simp; omega))
 have HB1 : Hid (Below w.heap.size w w1) := hB1
 have hz : w.heap.size + 3 ≤ w1.heap.size := by have := hb.size; simp at this; omega
 have HE1 : Hid (Env w1 aL aT aC) := HE.out.below hB1
 have hl := HE1.out.long
 have ht := HE1.out.text
 have hco := HE1.out.code
 have r0 : w1.cell? ⟨w.heap.size, 0, none⟩ = some (.int .i64 0) := by rw [hb.cell (p := ⟨w.heap.size, 0, none⟩) (by simp <;> omega)]; go_simp
 have s0 : w1.frozen? ⟨w.heap.size, 0, none⟩ = false := by rw [hb.frozen (p := ⟨w.heap.size, 0, none⟩) (by simp <;> omega)]; go_simp
 have f0 : w1.cell? ⟨w.heap.size + 1, 0, none⟩ = some (.int .i64 4) := by rw [hb.cell (p := ⟨w.heap.size + 1, 0, none⟩) (by simp <;> omega)]; go_simp
 have r1 : w1.cell? ⟨w.heap.size, 1, none⟩ = some (.int .i64 0) := by rw [hb.cell (p := ⟨w.heap.size, 1, none⟩) (by simp <;> omega)]; go_simp
 have s1 : w1.frozen? ⟨w.heap.size, 1, none⟩ = false := by rw [hb.frozen (p := ⟨w.heap.size, 1, none⟩) (by simp <;> omega)]; go_simp
 have f1 : w1.cell? ⟨w.heap.size + 1, 1, none⟩ = some (.int .i64 (-1)) := by rw [hb.cell (p := ⟨w.heap.size + 1, 1, none⟩) (by simp <;> omega)]; go_simp
 have r2 : w1.cell? ⟨w.heap.size, 2, none⟩ = some (.int .i64 0) := by rw [hb.cell (p := ⟨w.heap.size, 2, none⟩) (by simp <;> omega)]; go_simp
 have s2 : w1.frozen? ⟨w.heap.size, 2, none⟩ = false := by rw [hb.frozen (p := ⟨w.heap.size, 2, none⟩) (by simp <;> omega)]; go_simp
 have f2 : w1.cell? ⟨w.heap.size + 1, 2, none⟩ = some (.int .i64 (-1)) := by rw [hb.cell (p := ⟨w.heap.size + 1, 2, none⟩) (by simp <;> omega)]; go_simp
 have g0 : w1.frozen? ⟨w.heap.size + 1, 0, none⟩ = false := by rw [hb.frozen (p := ⟨w.heap.size + 1, 0, none⟩) (by simp <;> omega)]; go_simp
 have h0 : w.heap.size < w1.heap.size := by omega
 have h1 : w.heap.size + 1 < w1.heap.size := by omega
 clear hB1 hb hz
 go_wp2
 refine wp_loop_rounds 4 ?_
 rw [rounds_succ]
 go_wp2_with fail
 refine (is_other aC aL _ HE.out.neLC.symm ?_ ?_).mono ?_
 ·exact (HE.out.below (HB1.out.alloc (by omega) _)).blkC
 ·exact (HE.out.below (HB1.out.alloc (by omega) _)).blkL
 rintro e w2 ⟨rfl, rfl⟩
 go_wp2
 rw [rounds_succ]
 go_wp2_with fail
 refine (is_other aC aT _ HE.out.neTC.symm ?_ ?_).mono ?_
 ·exact (HE.out.below (HB1.out.alloc (by omega) _)).blkC
 ·exact (HE.out.below (HB1.out.alloc (by omega) _)).blkT
 rintro e w3 ⟨rfl, rfl⟩
 go_wp2
 rw [rounds_succ]
 go_wp2_with fail
 refine (is_same aC _).mono ?_
 rintro e w4 ⟨rfl, rfl⟩
 go_wp2
 rw [rounds_succ]
 go_wp2
 refine bodyPost_ret (v := .agg #[.int .i64 3, .int .i64 (-1), .int .i64 (-1)]) (by simp [results, Tryz.results36, go_sem, r0, r1, r2, h0]) rfl ⟨rfl, ?_⟩
 exact ((((HB1.out.setCell (Nat.le_succ _) _).setCell (Nat.le_refl _) _).setCell (Nat.le_refl _) _).setCell (Nat.le_refl _) _).alloc (by simp; omega) _
theorem fault_any (er : Int) (h : er = 0 ∨ er = 1 ∨ er = 2 ∨ er = 3) (w : World) (aL aT aC : Addr) (hE : Env w aL aT aC) :
  Calls Tryz.prog 36 #[errV er aL aT aC] w fun e w' => e = .returned (faultV er) ∧ Below w.heap.size w w' := by
 rcases h with rfl | rfl | rfl | rfl
 ·exact fault_nil w
 ·exact fault_long w aL aT aC hE
 ·exact fault_text w aL aT aC hE
 ·exact fault_code w aL aT aC hE
end Go.Proofs.YtkbinfhclaafhaaGreatDoor
namespace Go.Proofs.YtkbinfhclaafhaaGreatDoor
open Go.RowKit
end Go.Proofs.YtkbinfhclaafhaaGreatDoor
namespace Go.Proofs.YtkbinfhclaafhaaGreatDoor
open Go.RowKit
theorem askErr_cases (s : ByteArray) : askErr s = 0 ∨ askErr s = 1 ∨ askErr s = 2 := by
 by_cases h6 : 600 < s.size
 ·exact .inr (.inl (ask_long h6))
 ·cases hr : runesOf s with
  | none => exact .inr (.inr (ask_none h6 hr))
  | some l =>
   by_cases ha : amongB 10 l = true
   ·exact .inr (.inr (ask_feed h6 hr ha))
   ·by_cases h3 : 300 < l.length
    ·exact .inr (.inl (ask_many h6 hr ha h3))
    ·exact .inl (ask_ok h6 hr ha h3)
theorem askErr_ok {s : ByteArray} (h : askErr s = 0) : s.size ≤ 600 ∧ ∃ l, runesOf s = some l ∧ askRunes s = l ∧ l.length ≤ 300 := by
 have h6 : ¬ 600 < s.size := fun h6 => by rw [ask_long h6] at h; cases h
 cases hr : runesOf s with
 | none => rw [ask_none h6 hr] at h; cases h
 | some l => exact ⟨by omega, l, rfl, askRunes_ok h hr, askRunes_ok h hr ▸ askRunes_le s⟩
end Go.Proofs.YtkbinfhclaafhaaGreatDoor
namespace Go.Proofs.YtkbinfhclaafhaaGreatDoor
open Go.ChangeShapes Go.WideShapes Go.ChangeAt Go.RowKit Go.Deep Go.Lib
set_option maxRecDepth 100000
theorem own : ownKnob Tryz.prog.godebug = none := by kernel_rfl
theorem gLong : Tryz.prog.globalNamed "bidiguard/guard.ErrLong" = some 0 := by kernel_rfl
theorem gText : Tryz.prog.globalNamed "bidiguard/guard.ErrText" = some 1 := by kernel_rfl
theorem gCode : Tryz.prog.globalNamed "bidiguard/guard.ErrCode" = some 2 := by kernel_rfl
theorem tLong : (Tryz.prog.globals[0]?).map (·.type) = some 53 := by kernel_rfl
theorem tText : (Tryz.prog.globals[1]?).map (·.type) = some 53 := by kernel_rfl
theorem tCode : (Tryz.prog.globals[2]?).map (·.type) = some 53 := by kernel_rfl
theorem cellsES : Tryz.prog.cellsOf 372 = 1 := by kernel_rfl
theorem cellsStr : Tryz.prog.cellsOf 9 = 1 := by kernel_rfl
theorem star : "*" ++ "errors.errorString" = "*errors.errorString" := by decide
theorem rowES (u : TypeId) (h : Tryz.prog.typeName? 3 u = some "*errors.errorString") : u = 354 :=
 typeName_ptr_named (nm := "errors.errorString") (by rw [star]; kernel_rfl) (by kernel_rfl) (by decide) u (by rw [star]; exact h)
def errs3 : List (String × DataW Unit) := [("bidiguard/guard.ErrLong", Rows.laid_bidiguard_guard_ErrLong), ("bidiguard/guard.ErrText", Rows.laid_bidiguard_guard_ErrText), ("bidiguard/guard.ErrCode", Rows.laid_bidiguard_guard_ErrCode)]
theorem of_errs {W : World} (h : laidMet Tryz.prog errs3 W) :
  ∃ (a0 a1 a2 : Addr) (c0 c1 c2 : Array Value) (t0 t1 t2 : TypeId),
   W.cell? ⟨0, 0, none⟩ = some (.iface 354 (.pointer (some a0))) ∧ W.cell? ⟨1, 0, none⟩ = some (.iface 354 (.pointer (some a1))) ∧ W.cell? ⟨2, 0, none⟩ = some (.iface 354 (.pointer (some a2))) ∧
   a0 ≠ a1 ∧ a1 ≠ a2 ∧ a0 ≠ a2 ∧
   W.heap[a0.block]? = some (.cells c0 t0 (0, 0)) ∧ W.heap[a1.block]? = some (.cells c1 t1 (0, 0)) ∧ W.heap[a2.block]? = some (.cells c2 t2 (0, 0)) := by
 obtain ⟨ps, ⟨g0, t0, cs0, f0, p0, q0, hg0, ht0, hv0, hd0, ⟨g1, t1, cs1, f1, p1, q1, hg1, ht1, hv1, hd1, ⟨g2, t2, cs2, f2, p2, q2, hg2, ht2, hv2, hd2, hq2, e2⟩, e1⟩, e0⟩, hnd, hrows⟩ := h
 obtain rfl := Option.some.inj (gLong.symm.trans hg0)
 obtain rfl := Option.some.inj (gText.symm.trans hg1)
 obtain rfl := Option.some.inj (gCode.symm.trans hg2)
 obtain rfl := Option.some.inj (tLong.symm.trans ht0)
 obtain rfl := Option.some.inj (tText.symm.trans ht1)
 obtain rfl := Option.some.inj (tCode.symm.trans ht2)
 have hq2' : q2 = [] := hq2
 subst hq2'
 subst e2
 subst e1
 subst e0
 obtain ⟨l0⟩ := cs0
 obtain ⟨l1⟩ := cs1
 obtain ⟨l2⟩ := cs2
 have ok0 : ∀ u v, l0 = [.iface u v] → Value.okWide Tryz.prog W .any 0 u v := fun u v e => by
  subst e
  exact (hrows 0 0 (by simp [MemPlace.row])).2 u v (by simpa using World.var?_cell hg0 hv0 0)
 have ok1 : ∀ u v, l1 = [.iface u v] → Value.okWide Tryz.prog W .any 0 u v := fun u v e => by
  subst e
  exact (hrows 1 0 (by simp [MemPlace.row])).2 u v (by simpa using World.var?_cell hg1 hv1 0)
 have ok2 : ∀ u v, l2 = [.iface u v] → Value.okWide Tryz.prog W .any 0 u v := fun u v e => by
  subst e
  exact (hrows 2 0 (by simp [MemPlace.row])).2 u v (by simpa using World.var?_cell hg2 hv2 0)
 obtain ⟨a0, s0, rfl, hc0, hs0, hz0, rfl⟩ := errorString_of_trod Tryz.underlying53 rowES Tryz.underlying354 Tryz.underlying372 rfl rfl Tryz.underlying9 cellsES cellsStr hd0 ok0
 obtain ⟨a1, s1, rfl, hc1, hs1, hz1, rfl⟩ := errorString_of_trod Tryz.underlying53 rowES Tryz.underlying354 Tryz.underlying372 rfl rfl Tryz.underlying9 cellsES cellsStr hd1 ok1
 obtain ⟨a2, s2, rfl, hc2, hs2, hz2, rfl⟩ := errorString_of_trod Tryz.underlying53 rowES Tryz.underlying354 Tryz.underlying372 rfl rfl Tryz.underlying9 cellsES cellsStr hd2 ok2
 obtain ⟨c0, t0, hb0⟩ := (hrows a0.block a0.off (by simp [MemPlace.row])).1
 obtain ⟨c1, t1, hb1⟩ := (hrows a1.block a1.off (by simp [MemPlace.row])).1
 obtain ⟨c2, t2, hb2⟩ := (hrows a2.block a2.off (by simp [MemPlace.row])).1
 refine ⟨a0, a1, a2, c0, c1, c2, t0, t1, t2, by simpa using World.var?_cell hg0 hv0 0, by simpa using World.var?_cell hg1 hv1 0, by simpa using World.var?_cell hg2 hv2 0, ?_, ?_, ?_, hb0, hb1, hb2⟩
 ·rintro rfl; simp [MemPlace.row] at hnd
 ·rintro rfl; simp [MemPlace.row] at hnd
 ·rintro rfl; simp [MemPlace.row] at hnd
theorem gSpans : Tryz.prog.globalNamed "bidiguard/bidi.spans" = some 4 := by kernel_rfl
theorem tSpans : (Tryz.prog.globals[4]?).map (·.type) = some 176 := by kernel_rfl
theorem cellsSpan : Tryz.prog.cellsOf 175 = 3 := by kernel_rfl
theorem cellsI32 : Tryz.prog.cellsOf 21 = 1 := by kernel_rfl
theorem cellsCls : Tryz.prog.cellsOf 108 = 1 := by kernel_rfl
theorem cellsSpans : Tryz.prog.cellsOf 176 = 108 := by kernel_rfl
def spanD {H : Type} (x : Int × Int × Int) : DataW H := .agg [.lit (.int .i32 x.1), .lit (.int .i32 x.2.1), .lit (.int .i64 x.2.2)]
theorem spansData : Rows.laid_bidiguard_bidi_spans (H := Unit) = .agg (spansL.map spanD) := by kernel_rfl
def spanC (x : Int × Int × Int) : List Value := [.int .i32 x.1, .int .i32 x.2.1, .int .i64 x.2.2]
theorem spansCells : (spansL.flatMap spanC).toArray = spansV := by kernel_rfl
theorem span_cells {H : Type} {enc : TypeId × Value → H} {w : World} {base : Nat} {sp : Nat → Bool} {held : Bool} {fuel : Nat} {cs : List Value} {x : Int × Int × Int} {p : List MemPlace}
  (h : DataW.trod enc Tryz.prog w base sp held fuel 175 cs = some (spanD x, p)) : cs = spanC x := by
 obtain ⟨y0, y1, y2, n, hx, hl, h0, h1, h2⟩ := trod_struct3 Tryz.underlying175 h
 rw [cellsSpan] at hl
 match cs, hl with
 | [c0, c1, c2], _ =>
  obtain ⟨a, e0, rfl, _⟩ := DataW.trod_int Tryz.underlying21 (by simpa [cellsI32] using h0)
  obtain ⟨b, e1, rfl, _⟩ := DataW.trod_int Tryz.underlying21 (by simpa [cellsI32] using h1)
  obtain ⟨c, e2, rfl, _⟩ := DataW.trod_int Tryz.underlying108 (by simpa [cellsCls] using h2)
  simp [spanD] at hx e0 e1 e2
  obtain ⟨⟨r0, r1, r2⟩, _⟩ := hx
  subst e0 e1 e2
  simp [spanC, r0, r1, r2]
theorem flat_take (f : Int × Int × Int → List Value) (hf : ∀ x, (f x).length = 3) (L : List (Int × Int × Int)) (cs : List Value) (h : ∀ i (hi : i < L.length), (cs.drop (i * 3)).take 3 = f L[i]) :
  ∀ i, i ≤ L.length → cs.take (i * 3) = (L.take i).flatMap f
 | 0, _ => by simp
 | i + 1, hi => by
  have ih := flat_take f hf L cs h i (by omega)
  rw [show (i + 1) * 3 = i * 3 + 3 by omega, List.take_add, ih, h i (by omega), List.take_succ_eq_append_getElem (by omega), List.flatMap_append]
  simp
theorem spans_of_reads {W : World} (h : VarReads Tryz.prog W "bidiguard/bidi.spans" Rows.laid_bidiguard_bidi_spans) : ∃ t fr, W.heap[4]? = some (.cells spansV t fr) := by
 obtain ⟨g, t, cs, fuel, p, hg, hty, hvar, hd⟩ := h
 obtain rfl := Option.some.inj (gSpans.symm.trans hg)
 obtain rfl := Option.some.inj (tSpans.symm.trans hty)
 rw [spansData] at hd
 obtain ⟨xs, m, _, hx, hlen, hxl, hel⟩ := DataW.trod_array Tryz.underlying176 hd
 rw [cellsSpans] at hlen
 rw [cellsSpan] at hel
 have hxm : xs.map (·.1) = spansL.map spanD := by
  have := congrArg Prod.fst hx
  simpa using this.symm
 have hsl : spansL.length = 36 := rfl
 have hcs : cs.toList = spansL.flatMap spanC := by
  have := flat_take spanC (fun _ => rfl) spansL cs.toList (fun i hi => by
   have hi36 : i < 36 := by omega
   have he := hel i hi36
   rw [List.getElem?_eq_getElem (by omega)] at he
   have h1 : xs[i].1 = spanD spansL[i] := by
    have := congrArg (fun l : List (DataW Unit) => l[i]?) hxm
    simp only [List.getElem?_map, List.getElem?_eq_getElem (show i < xs.length by omega), List.getElem?_eq_getElem hi, Option.map_some, Option.some.injEq] at this
    exact this
   exact span_cells (p := xs[i].2) (by rw [he]; exact congrArg some (Prod.ext h1 rfl))) 36 (by omega)
  rw [List.take_of_length_le (by omega), List.take_of_length_le (by omega)] at this
  exact this
 have hca : cs = spansV := by
  rw [← spansCells, ← hcs]
 subst hca
 unfold World.var? at hvar
 rw [gSpans] at hvar
 simp only [Option.bind_some] at hvar
 split at hvar
 ·rename_i c t' fr hh
  cases hvar
  exact ⟨t', fr, hh⟩
 ·cases hvar
def laid7 : List (String × DataW Unit) := [("bidiguard/parts.lineComment", Rows.laid_bidiguard_parts_lineComment), ("bidiguard/parts.blockBegins", Rows.laid_bidiguard_parts_blockBegins), ("bidiguard/parts.blockEnds", Rows.laid_bidiguard_parts_blockEnds), ("math/bits.deBruijn32tab", Rows.laid_math_bits_deBruijn32tab), ("math/bits.deBruijn64tab", Rows.laid_math_bits_deBruijn64tab), ("internal/strconv.uint64pow10", Rows.laid_internal_strconv_uint64pow10), ("unicode/utf8.acceptRanges", Rows.laid_unicode_utf8_acceptRanges), ("bidiguard/bidi.bracketPairs", Rows.laid_bidiguard_bidi_bracketPairs), ("bidiguard/bidi.spans", Rows.laid_bidiguard_bidi_spans), ("bidiguard/guard.ErrLong", Rows.laid_bidiguard_guard_ErrLong), ("bidiguard/guard.ErrText", Rows.laid_bidiguard_guard_ErrText), ("bidiguard/guard.ErrCode", Rows.laid_bidiguard_guard_ErrCode), ("unicode.CaseRanges", Rows.laid_unicode_CaseRanges), ("unicode/utf8.first", Rows.laid_unicode_utf8_first)]
theorem firstD : Rows.laid_unicode_utf8_first = firstData := by kernel_rfl
theorem acceptD : Rows.laid_unicode_utf8_acceptRanges (H := Unit) = acceptData := by kernel_rfl
theorem etG : Tryz.prog.globalNamed "errors.errorType" = some 3 := by kernel_rfl
theorem rtT : (Tryz.prog.cutTypes.find? (·.1 == "internal/reflectlite.rtype")).map (·.2) = some 223 := by kernel_rfl
theorem oneRow : ((List.range 383).filter fun t => Tryz.prog.rowNamed t [101, 114, 114, 111, 114]) = [53] := by kernel_rfl
theorem nTypes : Tryz.prog.types.size = 383 := by kernel_rfl
end Go.Proofs.YtkbinfhclaafhaaGreatDoor
namespace Go.Proofs.YtkbinfhclaafhaaGreatDoor
open Go.ChangeShapes Go.WideShapes Go.ChangeAt Go.RowKit Go.Deep Go.Lib
set_option maxRecDepth 100000
theorem cellsOp : Tryz.prog.cellsOf 29 = 4 := by kernel_rfl
theorem cellsInt : Tryz.prog.cellsOf 3 = 1 := by kernel_rfl
theorem cellsEdits : Tryz.prog.cellsOf 27 = 1 := by kernel_rfl
theorem bytesOp : Tryz.prog.bytesOf 29 = 56 := by kernel_rfl
theorem laidOut : laidOutB Tryz.prog = true := by kernel_rfl
theorem op_cells {H : Type} {enc : TypeId × Value → H} {w : World} {base : Nat} {sp : Nat → Bool} {held : Bool} {fuel : Nat} {cs : List Value} {x : DataW H × List MemPlace}
  (h : DataW.trod enc Tryz.prog w base sp held fuel 29 cs = some x) : ∃ k a s ao n c, cs = [.int .i64 k, .int .i64 a, .string s, .slice ao n c] ∧ s.size ≤ maxLen := by
 obtain ⟨y0, y1, y2, y3, n, hx, hl, h0, h1, h2, h3⟩ := Joins.trod_struct4 Tryz.underlying29 h
 rw [cellsOp] at hl
 match cs, hl with
 | [c0, c1, c2, c3], _ =>
  obtain ⟨a, e0, _, _⟩ := DataW.trod_int Tryz.underlying3 (by simpa [cellsInt] using h0)
  obtain ⟨b, e1, _, _⟩ := DataW.trod_int Tryz.underlying3 (by simpa [cellsInt] using h1)
  obtain ⟨s, e2, _, hs⟩ := DataW.trod_string Tryz.underlying9 (by simpa [cellsStr] using h2)
  obtain ⟨ao, l, c, e3⟩ := Joins.slice_form Tryz.underlying27 (by simpa [cellsEdits] using h3)
  simp at e0 e1 e2 e3
  subst e0 e1 e2 e3
  exact ⟨a, b, s, ao, l, c, rfl, hs⟩
theorem open_script {H : Type} {enc : TypeId × Value → H} {W : World} {fuel : Nat} {cs : List Value} {x : DataW H × List MemPlace}
  (h : DataW.trod enc Tryz.prog W 0 (fun _ => true) true fuel 22 cs = some x) :
  (∃ ao cap, cs = [.slice ao 0 cap]) ∨ ∃ b off len cap, ∃ ops : List OpD, cs = [.slice (some ⟨b, off, none⟩) len cap] ∧ ops.length = len ∧ OpsAt W b off ops ∧ (∀ o ∈ ops, o.s.size ≤ 9223372036854775807) ∧
   ∃ elems spare ps, x = (.slice elems spare, ps) ∧ elems.length = len := by
 rcases open_slice Tryz.underlying22 h with ⟨rfl, _⟩ | ⟨a, len, cap, m, n, D, Pl, rfl, _, hlc, _, hm, rfl, hel⟩
 ·exact .inl ⟨_, _, rfl⟩
 ·by_cases h0 : len = 0
  ·subst h0; exact .inl ⟨_, _, rfl⟩
  right
  have hm' : m = cap := by simpa using hm
  subst hm'
  rw [cellsOp] at hel
  obtain ⟨b, off, spot⟩ := a
  have hone : ∀ i, i < len → ∃ o : OpD, W.cell? ((⟨b, off, spot⟩ : Addr).add (i * 4)) = some (.int .i64 o.k) ∧ W.cell? ((⟨b, off, spot⟩ : Addr).add (i * 4 + 1)) = some (.int .i64 o.a) ∧ W.cell? ((⟨b, off, spot⟩ : Addr).add (i * 4 + 2)) = some (.string o.s) ∧ W.cell? ((⟨b, off, spot⟩ : Addr).add (i * 4 + 3)) = some o.e ∧ (∃ ao n c, o.e = .slice ao n c) ∧ o.s.size ≤ 9223372036854775807 := by
   intro i hi
   obtain ⟨cs', hcs, ht⟩ := hel i (by omega)
   obtain ⟨k, a, s, ao, n', c, rfl, hs⟩ := op_cells ht
   obtain ⟨_, _, hc⟩ := World.cells?_some hcs
   refine ⟨⟨k, a, s, .slice ao n' c⟩, ?_, ?_, ?_, ?_, ⟨_, _, _, rfl⟩, by unfold maxLen at hs; omega⟩
   ·have := hc 0 (by omega); rw [add_add] at this; simpa using this
   ·have := hc 1 (by omega); rw [add_add] at this; simpa using this
   ·have := hc 2 (by omega); rw [add_add] at this; simpa using this
   ·have := hc 3 (by omega); rw [add_add] at this; simpa using this
  have hspot : spot = none := by
   obtain ⟨o, h1, _⟩ := hone 0 (by omega)
   simpa [Addr.add] using World.cell?_spot h1
  subst hspot
  obtain ⟨ops, hlen, hops⟩ : ∃ ops : List OpD, ops.length = len ∧ ∀ i (hi : i < ops.length), W.cell? ⟨b, off + i * 4, none⟩ = some (.int .i64 ops[i].k) ∧ W.cell? ⟨b, off + i * 4 + 1, none⟩ = some (.int .i64 ops[i].a) ∧ W.cell? ⟨b, off + i * 4 + 2, none⟩ = some (.string ops[i].s) ∧ W.cell? ⟨b, off + i * 4 + 3, none⟩ = some ops[i].e ∧ (∃ ao n c, ops[i].e = .slice ao n c) ∧ ops[i].s.size ≤ 9223372036854775807 := by
   have hall : ∀ k, k ≤ len → ∃ ops : List OpD, ops.length = k ∧ ∀ i (hi : i < ops.length), W.cell? ⟨b, off + i * 4, none⟩ = some (.int .i64 ops[i].k) ∧ W.cell? ⟨b, off + i * 4 + 1, none⟩ = some (.int .i64 ops[i].a) ∧ W.cell? ⟨b, off + i * 4 + 2, none⟩ = some (.string ops[i].s) ∧ W.cell? ⟨b, off + i * 4 + 3, none⟩ = some ops[i].e ∧ (∃ ao n c, ops[i].e = .slice ao n c) ∧ ops[i].s.size ≤ 9223372036854775807 := by
    intro k
    induction k with
    | zero => intro _; exact ⟨[], rfl, fun i hi => absurd hi (by simp)⟩
    | succ k ih =>
     intro hk
     obtain ⟨ops, hl, ho⟩ := ih (by omega)
     obtain ⟨o, h1, h2, h3, h4, h5, h6⟩ := hone k (by omega)
     refine ⟨ops ++ [o], by simp [hl], fun i hi => ?_⟩
     by_cases hik : i < ops.length
     ·rw [List.getElem_append_left hik]; exact ho i hik
     ·have hik' : i = k := by simp at hi; omega
      subst hik'
      have e : (ops ++ [o])[i]'hi = o := by
       rw [List.getElem_append_right (by omega)]; simp [hl]
      rw [e]
      rw [add_plain] at h1 h2 h3 h4
      exact ⟨h1, by rw [Nat.add_assoc]; exact h2, by rw [Nat.add_assoc]; exact h3, by rw [Nat.add_assoc]; exact h4, h5, h6⟩
   exact hall len (Nat.le_refl _)
  refine ⟨b, off, len, m, ops, rfl, hlen, fun i hi => ?_, fun o ho => ?_, _, _, _, rfl, by simp⟩
  ·obtain ⟨h1, h2, h3, h4, h5, _⟩ := hops i hi
   exact ⟨h1, h2, h3, h4, h5⟩
  ·obtain ⟨i, hi, rfl⟩ := List.mem_iff_getElem.1 ho
   exact (hops i hi).2.2.2.2.2
end Go.Proofs.YtkbinfhclaafhaaGreatDoor
namespace Go.Proofs.YtkbinfhclaafhaaGreatDoor
open Go.ChangeShapes Go.WideShapes Go.ChangeAt Go.RowKit Go.Deep Go.Lib
set_option maxRecDepth 100000
def layFirst (w : World) : World := { w with heap := w.heap.modify 5 fun
 | .cells _ t fr => .cells ((Lib.firstTab.map fun z => Value.int .u8 z).toArray) t fr
 | o => o }
def layCase (w : World) : World := { w with heap := (w.heap.push (.cells Lib.caseCells5 351 (0, 0))).modify 12 fun
 | .cells _ t fr => .cells #[.slice (some ⟨w.heap.size, 0, none⟩) 336 336] t fr
 | o => o }
theorem LaidVars_split {P : Program} {w : World} : ∀ {l l' : List (String × DataW Unit)} {ps : List MemPlace}, DataW.LaidVars P w (l ++ l') ps → ∃ p q, DataW.LaidVars P w l p ∧ DataW.LaidVars P w l' q ∧ ps = p ++ q
 | [], _, ps, h => ⟨[], ps, rfl, h, rfl⟩
 | (n, d) :: r, l', ps, h => by
  obtain ⟨g, t, cs, fuel, p, q, h1, h2, h3, h4, h5, rfl⟩ := h
  obtain ⟨p', q', h6, h7, rfl⟩ := LaidVars_split h5
  exact ⟨_, q', ⟨g, t, cs, fuel, p, p', h1, h2, h3, h4, h6, rfl⟩, h7, by simp [List.append_assoc]⟩
theorem laidMet_swap {P : Program} {w : World} {a b c : List (String × DataW Unit)} (h : laidMet P (a ++ b ++ c) w) : laidMet P (a ++ c ++ b) w := by
 obtain ⟨ps, hV, hn, hc⟩ := h
 obtain ⟨pab, pc, h1, h2, rfl⟩ := LaidVars_split hV
 obtain ⟨pa, pb, h3, h4, rfl⟩ := LaidVars_split h1
 have hp : (pa ++ pb ++ pc).Perm (pa ++ pc ++ pb) := by
  rw [List.append_assoc, List.append_assoc]
  exact List.Perm.append_left pa List.perm_append_comm
 exact ⟨pa ++ pc ++ pb, LaidVars_append (LaidVars_append h3 h2) h4, hp.nodup_iff.1 hn, fun b off hm => hc b off (hp.mem_iff.2 hm)⟩
def othL : List (String × DataW Unit) := Rows.classesRow.laid.filter fun x => x.2.handleName?.isNone
theorem othL_eq : othL = othL.take 12 ++ [("unicode.CaseRanges", Lib.caseData)] ++ othL.drop 13 := by
 rw [← Pinned.caseRanges_eq]
 rfl
theorem wit_case (os : Os) (args : Array Value) : laidMet Tryz.prog (othL.take 12 ++ othL.drop 13 ++ [("unicode.CaseRanges", Lib.caseData)]) ((layCase (layFirst (World.doorLaid Tryz.prog 200 os))).forCall (fun _ _ => 0) ⟨#[], args, []⟩).memory :=
 laidMet_with_case (ρ := Tryz.lays203_ren) { Tryz.lays203 with } Tryz.lays203.t206 ⟨by kernel_rfl, by kernel_rfl, by kernel_rfl, by kernel_rfl, by kernel_rfl, by kernel_rfl⟩
  8 (by kernel_rfl) (by kernel_rfl) (by kernel_rfl) (layFirst (World.doorLaid Tryz.prog 200 default)).heap.size 351 (of_decide_eq_true (by kernel_rfl)) (by kernel_rfl) (by kernel_rfl) (by kernel_rfl)
theorem wit_met (os : Os) (args : Array Value) : laidMetH Tryz.prog Rows.classesRow.laid ((layCase (layFirst (World.doorLaid Tryz.prog 200 os))).forCall (fun _ _ => 0) ⟨#[], args, []⟩).memory :=
 laidMetH_of_parts3 (fuel := 8) (by
  have := laidMet_swap (wit_case os args)
  rw [← othL_eq] at this
  exact this) (by kernel_rfl) (by kernel_rfl)
end Go.Proofs.YtkbinfhclaafhaaGreatDoor
namespace Go.Proofs.YtkbinfhclaafhaaGreatDoor
open Go.ChangeShapes Go.WideShapes Go.ChangeAt Go.RowKit Go.Deep Go.Lib
set_option maxRecDepth 100000
theorem gBrk : Tryz.prog.globalNamed "bidiguard/bidi.bracketPairs" = some 11 := by kernel_rfl
theorem tBrk : (Tryz.prog.globals[11]?).map (·.type) = some 304 := by kernel_rfl
theorem cellsB2 : Tryz.prog.cellsOf 303 = 2 := by kernel_rfl
theorem cellsB4 : Tryz.prog.cellsOf 304 = 8 := by kernel_rfl
theorem cellsBI : Tryz.prog.cellsOf 21 = 1 := by kernel_rfl
def brL : List (Int × Int) := [(40, 41), (91, 93), (123, 125), (12296, 12297)]
def brD {H : Type} (x : Int × Int) : DataW H := .agg [.lit (.int .i32 x.1), .lit (.int .i32 x.2)]
theorem brData : Rows.laid_bidiguard_bidi_bracketPairs (H := Unit) = .agg (brL.map brD) := by kernel_rfl
def brC (x : Int × Int) : List Value := [.int .i32 x.1, .int .i32 x.2]
theorem brCells : (brL.flatMap brC).toArray = brV := by kernel_rfl
theorem br_cells {H : Type} {enc : TypeId × Value → H} {w : World} {base : Nat} {sp : Nat → Bool} {held : Bool} {fuel : Nat} {cs : List Value} {x : Int × Int} {p : List MemPlace}
  (h : DataW.trod enc Tryz.prog w base sp held fuel 303 cs = some (brD x, p)) : cs = brC x := by
 obtain ⟨xs, m, _, hx, hlen, hxl, hel⟩ := DataW.trod_array Tryz.underlying303 h
 rw [cellsB2] at hlen
 rw [cellsBI] at hel
 have hxm : xs.map (·.1) = [.lit (.int .i32 x.1), .lit (.int .i32 x.2)] := by
  have := congrArg Prod.fst hx
  simpa [brD] using this.symm
 match cs, hlen with
 | [c0, c1], _ =>
  have e0 := hel 0 (by omega)
  have e1 := hel 1 (by omega)
  rw [List.getElem?_eq_getElem (by omega)] at e0 e1
  have f0 : xs[0].1 = .lit (.int .i32 x.1) := by
   have := congrArg (fun l : List (DataW H) => l[0]?) hxm
   simpa [List.getElem?_map, List.getElem?_eq_getElem (show 0 < xs.length by omega)] using this
  have f1 : xs[1].1 = .lit (.int .i32 x.2) := by
   have := congrArg (fun l : List (DataW H) => l[1]?) hxm
   simpa [List.getElem?_map, List.getElem?_eq_getElem (show 1 < xs.length by omega)] using this
  obtain ⟨a, q0, r0, _⟩ := DataW.trod_int Tryz.underlying21 (by simpa using e0)
  obtain ⟨b, q1, r1, _⟩ := DataW.trod_int Tryz.underlying21 (by simpa using e1)
  rw [r0] at f0
  rw [r1] at f1
  simp at q0 q1 f0 f1
  subst q0 q1
  simp [brC, f0, f1]
theorem flat_take2 (f : Int × Int → List Value) (hf : ∀ x, (f x).length = 2) (L : List (Int × Int)) (cs : List Value) (h : ∀ i (hi : i < L.length), (cs.drop (i * 2)).take 2 = f L[i]) :
  ∀ i, i ≤ L.length → cs.take (i * 2) = (L.take i).flatMap f
 | 0, _ => by simp
 | i + 1, hi => by
  have ih := flat_take2 f hf L cs h i (by omega)
  rw [show (i + 1) * 2 = i * 2 + 2 by omega, List.take_add, ih, h i (by omega), List.take_succ_eq_append_getElem (by omega), List.flatMap_append]
  simp
theorem br_of_reads {W : World} (h : VarReads Tryz.prog W "bidiguard/bidi.bracketPairs" Rows.laid_bidiguard_bidi_bracketPairs) : Br W := by
 obtain ⟨g, t, cs, fuel, p, hg, hty, hvar, hd⟩ := h
 obtain rfl := Option.some.inj (gBrk.symm.trans hg)
 obtain rfl := Option.some.inj (tBrk.symm.trans hty)
 rw [brData] at hd
 obtain ⟨xs, m, _, hx, hlen, hxl, hel⟩ := DataW.trod_array Tryz.underlying304 hd
 rw [cellsB4] at hlen
 rw [cellsB2] at hel
 have hxm : xs.map (·.1) = brL.map brD := by
  have := congrArg Prod.fst hx
  simpa using this.symm
 have hsl : brL.length = 4 := rfl
 have hcs : cs.toList = brL.flatMap brC := by
  have := flat_take2 brC (fun _ => rfl) brL cs.toList (fun i hi => by
   have hi4 : i < 4 := by omega
   have he := hel i hi4
   rw [List.getElem?_eq_getElem (by omega)] at he
   have h1 : xs[i].1 = brD brL[i] := by
    have := congrArg (fun l : List (DataW Unit) => l[i]?) hxm
    simp only [List.getElem?_map, List.getElem?_eq_getElem (show i < xs.length by omega), List.getElem?_eq_getElem hi, Option.map_some, Option.some.injEq] at this
    exact this
   exact br_cells (p := xs[i].2) (by rw [he]; exact congrArg some (Prod.ext h1 rfl))) 4 (by omega)
  rw [List.take_of_length_le (by omega), List.take_of_length_le (by omega)] at this
  exact this
 have hca : cs = brV := by
  rw [← brCells, ← hcs]
 subst hca
 unfold World.var? at hvar
 rw [gBrk] at hvar
 simp only [Option.bind_some] at hvar
 split at hvar
 ·rename_i c t' fr hh
  cases hvar
  exact ⟨t', fr, hh⟩
 ·cases hvar
end Go.Proofs.YtkbinfhclaafhaaGreatDoor
namespace Go.Proofs.YtkbinfhclaafhaaGreatDoor
open Go.RowKit
theorem ite_bd {p : Prop} [Decidable p] {a b : Int} (ha : p → 0 ≤ a ∧ a ≤ 21) (hb : 0 ≤ b ∧ b ≤ 21) : 0 ≤ (if p then a else b) ∧ (if p then a else b) ≤ 21 := by
 by_cases h : p
 ·rw [if_pos h]; exact ha h
 ·rw [if_neg h]; exact hb
theorem cls_bd (r : Int) : 0 ≤ cls r ∧ cls r ≤ 21 := by
 unfold cls
 repeat (refine ite_bd (fun h => by omega) ?_)
 omega
theorem runes_ne {s : ByteArray} {l : List Int} (hr : runesOf s = some l) (h : 0 < s.size) : l ≠ [] := by
 unfold runesOf at hr
 obtain ⟨n, hn⟩ : ∃ n, s.size = n + 1 := ⟨s.size - 1, by omega⟩
 rw [hn, runesFrom, if_pos h] at hr
 split at hr
 ·cases hr
 ·cases hx : runesFrom s n (0 + szAt s 0) with
  | none => rw [hx] at hr; cases hr
  | some q => rw [hx] at hr; rintro rfl; simp at hr
theorem runes_nil {s : ByteArray} {l : List Int} (hr : runesOf s = some l) (h : s.size = 0) : l = [] := by
 unfold runesOf at hr
 rw [h, runesFrom] at hr
 exact (Option.some.inj hr).symm
theorem bLevels_any (s : ByteArray) (l : List Int) (d : Int) (w : World) (aL aT aC : Addr) (hs : s.size ≤ 600) (hr : runesOf s = some l) (hl : l.length ≤ 300) (hE : Env w aL aT aC) (hB : Br w) :
  Calls Tryz.prog 55 #[.string s, .int .i64 d] w fun e w' => ∃ g, e = .returned (.slice (some ⟨g, 0, none⟩) l.length l.length) ∧ RowAt w' w.heap.size 3 g l.length (iv (levelsL l (l.map cls) d)) ∧ Below w.heap.size w w' := by
 by_cases h0 : s.size = 0
 ·obtain rfl := runes_nil hr h0
  exact bLevels_nil s d w h0
 ·refine bLevels_seqs bseqs_row s l d w hs hr (runes_ne hr (by omega)) (by omega) hB (fun c hc => ?_) (fun r W hW => ?_)
  ·obtain ⟨r, _, rfl⟩ := List.mem_map.1 hc
   exact cls_bd r
  ·obtain ⟨tt, fr, hsp⟩ := (hE.below hW).spans
   exact classOf_any r W tt fr hsp
theorem guardLevels_err (s : ByteArray) (d : Int) (w : World) (aL aT aC : Addr) (hs : s.size ≤ 9223372036854775807) (hE : Env w aL aT aC) (he : askErr s = 1 ∨ askErr s = 2) :
  Calls Tryz.prog 35 #[.string s, .int .i64 d] w fun e w' => e = .returned (.tuple #[.slice none 0 0, errV (askErr s) aL aT aC]) ∧ Below w.heap.size w w' := by
 have HC : Hid (Calls Tryz.prog 54 #[.string s] w fun e w' => e = .returned (errV (askErr s) aL aT aC) ∧ Below w.heap.size w w') := check_any s w aL aT aC hs hE
 obtain ⟨a, ha⟩ : ∃ a, errV (askErr s) aL aT aC = .iface 354 (.pointer (some a)) := by
  rcases he with he | he <;> rw [he]
  ·exact ⟨aL, rfl⟩
  ·exact ⟨aT, rfl⟩
 rw [ha] at HC ⊢
 clear ha he hE
 go_enter Tryz.func35, Tryz.ntmps35
 go_wp2_with fail
 refine HC.out.mono ?_
 rintro e w1 ⟨rfl, hb⟩
 go_wp2
 go_ret2
 exact ⟨rfl, hb⟩
set_option maxHeartbeats 2000000 in
theorem guardLevels_ok (s : ByteArray) (l : List Int) (d : Int) (w : World) (aL aT aC : Addr) (hs : s.size ≤ 600) (hE : Env w aL aT aC) (hB : Br w) (he : askErr s = 0) (hr : runesOf s = some l) (hl : l.length ≤ 300) :
  Calls Tryz.prog 35 #[.string s, .int .i64 d] w fun e w' => ∃ g, e = .returned (.tuple #[.slice (some ⟨g, 0, none⟩) l.length l.length, .nilIface]) ∧ RowAt w' w.heap.size 3 g l.length (iv (levelsL l (l.map cls) d)) ∧ Below w.heap.size w w' := by
 have HC : Hid (Calls Tryz.prog 54 #[.string s] w fun e w' => e = .returned .nilIface ∧ Below w.heap.size w w') := by
  have := check_any s w aL aT aC (by omega) hE
  rw [he] at this
  exact this
 have HL : Hid (∀ W, Below w.heap.size w W → Calls Tryz.prog 55 #[.string s, .int .i64 d] W fun e w' => ∃ g, e = .returned (.slice (some ⟨g, 0, none⟩) l.length l.length) ∧ RowAt w' W.heap.size 3 g l.length (iv (levelsL l (l.map cls) d)) ∧ Below W.heap.size W w') := fun W hW => bLevels_any s l d W aL aT aC hs hr hl (hE.below hW) (hB.below hW)
 clear he hE hr hB
 go_enter Tryz.func35, Tryz.ntmps35
 go_wp2_with fail
 refine HC.out.mono ?_
 rintro e w1 ⟨rfl, hb1⟩
 have HB1 : Hid (Below w.heap.size w w1) := hb1
 clear hb1 HC
 go_wp2_with fail
 refine (HL.out w1 HB1.out).mono ?_
 rintro e w2 ⟨g, rfl, hr2, hb2⟩
 have H2 : Hid (RowAt w2 w.heap.size 3 g l.length (iv (levelsL l (l.map cls) d)) ∧ Below w.heap.size w w2) := ⟨own_lowB hr2 HB1.out.size, HB1.out.trans (hb2.mono HB1.out.size)⟩
 clear hr2 hb2 HL HB1
 go_wp2
 go_ret2
 exact ⟨g, rfl, H2.out.1, H2.out.2⟩
theorem lineL_ok {s : ByteArray} {l : List Int} (d : Int) (h : askErr s = 0) (ha : askRunes s = l) : lineL s d = levelsL l (l.map cls) d := by rw [lineL, if_pos h, ha]
theorem guardLevels_any (s : ByteArray) (d : Int) (w : World) (aL aT aC : Addr) (hs : s.size ≤ 9223372036854775807) (hE : Env w aL aT aC) (hB : Br w) :
  Calls Tryz.prog 35 #[.string s, .int .i64 d] w fun e w' => ∃ v, e = .returned (.tuple #[v, errV (askErr s) aL aT aC]) ∧ w'.ownsRow w.heap.size 3 1 v (lineL s d).length (iv (lineL s d)) ∧ (askErr s ≠ 0 → v = .slice none 0 0) ∧ (askErr s = 0 → ∃ g, v = .slice (some ⟨g, 0, none⟩) (lineL s d).length (lineL s d).length) ∧ Below w.heap.size w w' := by
 by_cases h0 : askErr s = 0
 ·obtain ⟨h6, l, hr, ha, hl⟩ := askErr_ok h0
  refine (guardLevels_ok s l d w aL aT aC h6 hE hB h0 hr hl).mono ?_
  rintro e w' ⟨g, rfl, hown, hb⟩
  have hle : (levelsL l (l.map cls) d).length = l.length := by have := hown.1; simpa [iv] using this
  rw [lineL_ok d h0 ha, hle]
  exact ⟨_, by rw [h0]; rfl, hown, fun h => absurd h0 h, fun _ => ⟨g, rfl⟩, hb⟩
 ·refine (guardLevels_err s d w aL aT aC hs hE (by have := askErr_cases s; omega)).mono ?_
  rintro e w' ⟨rfl, hb⟩
  refine ⟨_, rfl, ?_, fun _ => rfl, fun h => absurd h h0, hb⟩
  rw [lineL, if_neg h0]
  exact World.ownsRow_nil _ _ _ _
set_option maxHeartbeats 2000000 in
theorem plainLevels_any (s : ByteArray) (d : Int) (w : World) (aL aT aC : Addr) (hs : s.size ≤ 9223372036854775807) (hE : Env w aL aT aC) (hBr : Br w) :
  Calls Tryz.prog 19 #[.string s, .int .i64 d] w fun e w' => ∃ v, e = .returned (.tuple #[v, faultV (askErr s)]) ∧ w'.ownsRow w.heap.size 3 1 v (lineL s d).length (iv (lineL s d)) ∧ (askErr s ≠ 0 → v = .slice none 0 0) ∧ Below w.heap.size w w' := by
 have HE : Hid (Env w aL aT aC) := hE
 have HBr : Hid (Br w) := hBr
 have hcs := askErr_cases s
 have HG : Hid (∀ W, Below w.heap.size w W → Calls Tryz.prog 35 #[.string s, .int .i64 d] W fun e w' => ∃ v, e = .returned (.tuple #[v, errV (askErr s) aL aT aC]) ∧ w'.ownsRow W.heap.size 3 1 v (lineL s d).length (iv (lineL s d)) ∧ (askErr s ≠ 0 → v = .slice none 0 0) ∧ (askErr s = 0 → ∃ g, v = .slice (some ⟨g, 0, none⟩) (lineL s d).length (lineL s d).length) ∧ Below W.heap.size W w') := fun W hW => guardLevels_any s d W aL aT aC hs (HE.out.below hW) (HBr.out.below hW)
 clear hE hBr
 generalize lineL s d = LV at *
 go_enter Tryz.func19, Tryz.ntmps19
 go_wp2_with fail
 have hb0 : ∀ o : Obj, Below w.heap.size w (w.alloc o) := fun o => (Below.refl _ _).alloc (Nat.le_refl _) o
 refine (HG.out _ (hb0 _)).mono ?_
 rintro e w1 ⟨v, rfl, hsl, hnil, _, hb1⟩
 have hB1 : Below w.heap.size w w1 := (hb0 _).trans (hb1.mono (by simp))
 have HE1 : Hid (Env w1 aL aT aC) := HE.out.below hB1
 obtain ⟨ev, hev⟩ : ∃ ev, ev = errV (askErr s) aL aT aC := ⟨_, rfl⟩
 rw [← hev]
 have HF : Hid (Calls Tryz.prog 36 #[ev] w1 fun e w' => e = .returned (faultV (askErr s)) ∧ Below w1.heap.size w1 w') := by
  rw [hev]; exact fault_any _ (by omega) w1 aL aT aC HE1.out
 have k0 : w1.cell? ⟨w.heap.size, 0, none⟩ = some (.int .i64 0) := by rw [hb1.cell (p := ⟨w.heap.size, 0, none⟩) (by simp)]; go_simp
 have k1 : w1.cell? ⟨w.heap.size, 1, none⟩ = some (.int .i64 0) := by rw [hb1.cell (p := ⟨w.heap.size, 1, none⟩) (by simp)]; go_simp
 have k2 : w1.cell? ⟨w.heap.size, 2, none⟩ = some (.int .i64 0) := by rw [hb1.cell (p := ⟨w.heap.size, 2, none⟩) (by simp)]; go_simp
 have f0 : w1.frozen? ⟨w.heap.size, 0, none⟩ = false := by rw [hb1.frozen (p := ⟨w.heap.size, 0, none⟩) (by simp)]; go_simp
 have f1 : w1.frozen? ⟨w.heap.size, 1, none⟩ = false := by rw [hb1.frozen (p := ⟨w.heap.size, 1, none⟩) (by simp)]; go_simp
 have f2 : w1.frozen? ⟨w.heap.size, 2, none⟩ = false := by rw [hb1.frozen (p := ⟨w.heap.size, 2, none⟩) (by simp)]; go_simp
 have hz : w.heap.size < w1.heap.size := by have := hb1.size; simp at this; omega
 have HB1 : Hid (Below w.heap.size w w1) := hB1
 have HS : Hid (w1.ownsRow (w.heap.size + 1) 3 1 v LV.length (iv LV)) := hsl.low (by simp)
 have HN : Hid (askErr s ≠ 0 → v = .slice none 0 0) := hnil
 clear hev hB1 hb1 hb0 hsl hnil HG
 go_wp2_with fail
 refine HF.out.mono ?_
 rintro e w2 ⟨rfl, hb2⟩
 obtain ⟨er, m, hfv⟩ : ∃ er m, faultV (askErr s) = .agg #[.int .i64 er, .int .i64 m, .int .i64 m] := ⟨_, _, rfl⟩
 have HFV : Hid (faultV (askErr s) = .agg #[.int .i64 er, .int .i64 m, .int .i64 m]) := hfv
 rw [hfv]
 have j0 : w2.cell? ⟨w.heap.size, 0, none⟩ = some (.int .i64 0) := cell_keep hb2 k0
 have j1 : w2.cell? ⟨w.heap.size, 1, none⟩ = some (.int .i64 0) := cell_keep hb2 k1
 have j2 : w2.cell? ⟨w.heap.size, 2, none⟩ = some (.int .i64 0) := cell_keep hb2 k2
 have g0 : w2.frozen? ⟨w.heap.size, 0, none⟩ = false := (hb2.frozen (p := ⟨w.heap.size, 0, none⟩) hz).trans f0
 have g1 : w2.frozen? ⟨w.heap.size, 1, none⟩ = false := (hb2.frozen (p := ⟨w.heap.size, 1, none⟩) hz).trans f1
 have g2 : w2.frozen? ⟨w.heap.size, 2, none⟩ = false := (hb2.frozen (p := ⟨w.heap.size, 2, none⟩) hz).trans f2
 have HB2 : Hid (Below w.heap.size w w2) := HB1.out.trans (hb2.mono HB1.out.size)
 have HS2 : Hid (w2.ownsRow (w.heap.size + 1) 3 1 v LV.length (iv LV)) := ownsRow_blocks HS.out fun k o _ ho => heap_keep hb2 ho
 clear hfv hb2 k0 k1 k2 f0 f1 f2 HF
 go_wp2
 refine bodyPost_ret (v := .tuple #[v, .agg #[.int .i64 er, .int .i64 m, .int .i64 m]]) (by simp [results, Tryz.results19, go_sem, j0, j1, j2]) rfl ⟨v, by rw [HFV.out], ?_, HN.out, ?_⟩
 ·exact own_lower (ownsRow_setCell_below (ownsRow_setCell_below (ownsRow_setCell_below HS2.out (by simp) _) (by simp) _) (by simp) _)
 ·exact ((HB2.out.setCell (Nat.le_refl _) _).setCell (Nat.le_refl _) _).setCell (Nat.le_refl _) _
theorem finQ_len (para : Int) : ∀ (cs os : List Int) (prev : Int), cs.length = os.length → (finL para prev cs os).length = cs.length
 | [], _, _, _ => rfl
 | _ :: _, [], _, h => by simp at h
 | c :: cs, o :: os, prev, h => by rw [finL, List.length_cons, List.length_cons, finQ_len para cs os _ (by simpa using h)]
theorem setQ_len : ∀ (xs : List (Nat × Int × Int)) (l : List Int), (xs.foldl setF l).length = l.length
 | [], _ => rfl
 | x :: xs, l => by rw [List.foldl_cons, setQ_len xs]; simp [setF]
theorem levelsQ_len (rs cs : List Int) (d : Int) : (levelsL rs cs d).length = cs.length := by
 unfold levelsL
 exact finQ_len _ _ _ _ (by rw [setQ_len, xLevels_lenQ])
theorem lineQ_len (s : ByteArray) (d : Int) : (lineL s d).length ≤ 300 := by
 unfold lineL
 split
 ·rw [levelsQ_len, List.length_map]; exact askRunes_le s
 ·simp
end Go.Proofs.YtkbinfhclaafhaaGreatDoor
