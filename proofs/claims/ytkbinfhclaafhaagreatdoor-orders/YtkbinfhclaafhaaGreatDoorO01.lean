import Derived.Test.YtkbinfhclaafhaaGreatDoorP02
namespace Go.Proofs.YtkbinfhclaafhaaGreatDoor
open Go.RowKit
theorem orders_law_row (ops : List OpD) (b off cap n : Nat) (w : World) (aL aT aC : Addr) (hE : Env w aL aT aC) (hB : Br w) (hl : ops.length = n) (hn : n ≤ 1000000000000000) (hc : OpsAt w b off ops) (hs : ∀ o ∈ ops, o.s.size ≤ 9223372036854775807) :
  Calls Tryz.prog 5 #[.slice (some ⟨b, off, none⟩) n cap] w fun e w' => e = .returned (.bool true) ∧ Below w.heap.size w w' := by
 have HU : Hid (Calls Tryz.prog 13 #[.slice (some ⟨b, off, none⟩) n cap, .int .i64 3, .int .i64 3] w fun e w' => e = .returned (.int .i64 (-1)) ∧ Below w.heap.size w w') :=
  upTo_true ops b off cap n 3 3 w hl hn hc fun o ho h1 h2 W hW => plays_order o W aL aT aC (by omega) (hs o ho) (hE.below hW) (hB.below hW)
 clear hE hc hs hB
 go_enter Tryz.func5, Tryz.ntmps5
 go_wp2_with fail
 refine HU.out.mono ?_
 rintro e w1 ⟨rfl, hb⟩
 go_wp2
 go_ret
 exact ⟨rfl, hb⟩
theorem orders_law_zero (ao : Option Addr) (cap : Nat) (w : World) :
  Calls Tryz.prog 5 #[.slice ao 0 cap] w fun e w' => e = .returned (.bool true) ∧ Below w.heap.size w w' := by
 go_enter Tryz.func5, Tryz.ntmps5
 go_wp2_with fail
 refine (upTo_zero ao cap 3 3 w).mono ?_
 rintro e w1 ⟨rfl, hb⟩
 go_wp2
 go_ret
 exact ⟨rfl, hb⟩
end Go.Proofs.YtkbinfhclaafhaaGreatDoor
