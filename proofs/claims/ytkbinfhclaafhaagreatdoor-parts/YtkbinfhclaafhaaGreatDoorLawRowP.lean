import Derived.Test.YtkbinfhclaafhaaGreatDoorPtLaw1
import Derived.Test.YtkbinfhclaafhaaGreatDoorUpTo
namespace Go.Proofs.YtkbinfhclaafhaaGreatDoor
open Go.RowKit

/-! The law of parts over a script. -/
set_option maxRecDepth 100000 in
set_option maxHeartbeats 2000000 in
theorem plays_parts (o : OpD) (w : World) (hk : o.k = 4) (env : PEnv w) (h20 : 10 ≤ w.heap.size) :
    Calls Tryz.prog 18 #[opV o] w fun e w' => e = .returned (.bool true) ∧ Below w.heap.size w w' := by
  obtain ⟨k, a, s, oe⟩ := o
  simp only at hk
  subst hk
  unfold opV
  have HP : Hid (∀ W, Below w.heap.size w W → Calls Tryz.prog 31 #[.agg #[.int .i64 4, .int .i64 a, .string s, oe]] W fun e w' => e = .returned (.bool true) ∧ Below W.heap.size W w') := fun W hW => lawParts_any 4 a s oe W (env.below h20 hW) (Nat.le_trans h20 hW.size)
  clear env h20
  go_enter Tryz.func18, Tryz.ntmps18
  have hb0 : Below w.heap.size w (w.alloc (.cells #[.int .i64 4, .int .i64 a, .string s, oe] 29)) := (Below.refl _ _).alloc (Nat.le_refl _) _
  have HB0 : Hid _ := hb0
  clear hb0
  go_wp2_with fail
  refine (HP.out _ HB0.out).mono ?_
  rintro e w1 ⟨rfl, hb1⟩
  have HB1 : Hid (Below w.heap.size w w1) := Below.trans HB0.out (hb1.mono (Below.size HB0.out))
  clear hb1
  go_wp2
  go_ret
  exact ⟨rfl, HB1.out⟩
theorem parts_law_row (ops : List OpD) (b off cap n : Nat) (w : World) (env : PEnv w) (h20 : 10 ≤ w.heap.size) (hl : ops.length = n) (hn : n ≤ 1000000000000000) (hc : OpsAt w b off ops) :
    Calls Tryz.prog 7 #[.slice (some ⟨b, off, none⟩) n cap] w fun e w' => e = .returned (.bool true) ∧ Below w.heap.size w w' := by
  have HU : Hid (Calls Tryz.prog 13 #[.slice (some ⟨b, off, none⟩) n cap, .int .i64 4, .int .i64 4] w fun e w' => e = .returned (.int .i64 (-1)) ∧ Below w.heap.size w w') :=
    upTo_true ops b off cap n 4 4 w hl hn hc fun o ho h1 h2 W hW => plays_parts o W (by omega) (env.below h20 hW) (Nat.le_trans h20 hW.size)
  clear hc env h20
  go_enter Tryz.func7, Tryz.ntmps7
  go_wp2_with fail
  refine HU.out.mono ?_
  rintro e w1 ⟨rfl, hb⟩
  go_wp2
  go_ret
  exact ⟨rfl, hb⟩
theorem parts_law_zero (ao : Option Addr) (cap : Nat) (w : World) :
    Calls Tryz.prog 7 #[.slice ao 0 cap] w fun e w' => e = .returned (.bool true) ∧ Below w.heap.size w w' := by
  go_enter Tryz.func7, Tryz.ntmps7
  go_wp2_with fail
  refine (upTo_zero ao cap 4 4 w).mono ?_
  rintro e w1 ⟨rfl, hb⟩
  go_wp2
  go_ret
  exact ⟨rfl, hb⟩
end Go.Proofs.YtkbinfhclaafhaaGreatDoor
