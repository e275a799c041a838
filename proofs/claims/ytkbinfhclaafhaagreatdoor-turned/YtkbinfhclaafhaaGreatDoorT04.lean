import Derived.Test.YtkbinfhclaafhaaGreatDoorT03
namespace Go.Proofs.YtkbinfhclaafhaaGreatDoor
open Go.RowKit
set_option maxHeartbeats 4000000 in
theorem turned_law_row (ops : List OpD) (b off cap n : Nat) (w : World) (aL aT aC : Addr) (hE : Env w aL aT aC) (hB : Br w) (hl : ops.length = n) (hn : n ≤ 1000000000000000) (hc : OpsAt w b off ops) (hs : ∀ o ∈ ops, o.s.size ≤ 9223372036854775807) :
  Calls Tryz.prog 6 #[.slice (some ⟨b, off, none⟩) n cap] w fun e w' => e = .returned (.bool true) ∧ Below w.heap.size w w' := by
 have HC : Hid (OpsAt w b off ops) := hc
 have HL : Hid (ops.length = n) := hl
 have HP : Hid (∀ o ∈ ops, ∀ W, Below w.heap.size w W → Calls Tryz.prog 15 #[opV o] W fun e W' => e = .returned (.bool true) ∧ Below W.heap.size W W') := fun o ho W hW => turned_any o W aL aT aC (hs o ho) (hE.below hW) (hB.below hW)
 have HSh : Hid (Calls Tryz.prog 14 #[] w fun e w' => e = .returned (.bool true) ∧ Below w.heap.size w w') := shows_any w aL aT aC hE hB
 clear hc hl hs hE hB
 go_enter Tryz.func6, Tryz.ntmps6
 go_wp2_with fail
 refine HSh.out.mono ?_
 rintro e w1 ⟨rfl, hb1⟩
 have HB1 : Hid (Below w.heap.size w w1) := hb1
 clear hb1 HSh
 go_wp2
 go_loopg [4] n (fun gk i wr => ∃ k : Nat, k ≤ n ∧ gk = n - k ∧ i = .int .i64 k ∧ Below w.heap.size w wr)
 case atStart => exact ⟨0, Nat.zero_le _, rfl, rfl, HB1.out⟩
 case round =>
  clear HB1
  obtain ⟨k, hk, rfl, rfl, hb⟩ := hrel
  have hbz := hb.size
  have hk60 : (k : Int) < 1152921504606846976 := by omega
  by_cases hlt : k < n
  ·have hlt' : (k : Int) < (n : Int) := by omega
   have hkl : k < ops.length := by rw [HL.out]; exact hlt
   obtain ⟨c0, c1, c2, c3, ao, m, cc, he⟩ := (HC.out.below hb) k hkl
   have HPk : Hid (Calls Tryz.prog 15 #[opV ops[k]] wr fun e W' => e = .returned (.bool true) ∧ Below wr.heap.size wr W') := HP.out ops[k] (List.getElem_mem hkl) wr hb
   generalize ops[k] = o at *
   obtain ⟨ok, oa, os, oe⟩ := o
   simp only at c0 c1 c2 c3 he
   subst he
   have HPc : Hid (Calls Tryz.prog 15 #[.agg #[.int .i64 ok, .int .i64 oa, .string os, .slice ao m cc]] wr fun e W' => e = .returned (.bool true) ∧ Below wr.heap.size wr W') := HPk.out
   clear HPk hkl
   go_wp2_with fail
   refine HPc.out.mono ?_
   rintro e w3 ⟨rfl, hb3⟩
   have HB4 : Hid (Below w.heap.size w w3) := hb.trans (hb3.mono hbz)
   clear hb3 HPc c0 c1 c2 c3 hb
   go_wp2
   go_roundg (n - (k + 1))
   case measure => omega
   case rel => exact ⟨k + 1, by omega, rfl, by go_num, HB4.out⟩
  ·have hlt' : ¬ (k : Int) < (n : Int) := by omega
   go_wp2
   go_ret
   exact ⟨rfl, hb⟩
theorem turned_law_zero (ao : Option Addr) (cap : Nat) (w : World) (aL aT aC : Addr) (hE : Env w aL aT aC) (hB : Br w) :
  Calls Tryz.prog 6 #[.slice ao 0 cap] w fun e w' => e = .returned (.bool true) ∧ Below w.heap.size w w' := by
 have HSh : Hid (Calls Tryz.prog 14 #[] w fun e w' => e = .returned (.bool true) ∧ Below w.heap.size w w') := shows_any w aL aT aC hE hB
 clear hE hB
 go_enter Tryz.func6, Tryz.ntmps6
 go_wp2_with fail
 refine HSh.out.mono ?_
 rintro e w1 ⟨rfl, hb1⟩
 go_wp2
 refine wp_loop_rounds 1 ?_
 rw [rounds_succ]
 go_wp2
 go_ret
 exact ⟨rfl, hb1⟩
end Go.Proofs.YtkbinfhclaafhaaGreatDoor
