import Derived.Test.YtkbinfhclaafhaaGreatDoorKeep
namespace Go.Proofs.YtkbinfhclaafhaaGreatDoor
open Go.RowKit

/-- A step of a script, as a value. -/
structure OpD where
  k : Int
  a : Int
  s : ByteArray
  e : Value
def opV (o : OpD) : Value := .agg #[.int .i64 o.k, .int .i64 o.a, .string o.s, o.e]
def OpsAt (w : World) (b off : Nat) (ops : List OpD) : Prop := ∀ i (h : i < ops.length), w.cell? ⟨b, off + i * 4, none⟩ = some (.int .i64 ops[i].k) ∧ w.cell? ⟨b, off + i * 4 + 1, none⟩ = some (.int .i64 ops[i].a) ∧ w.cell? ⟨b, off + i * 4 + 2, none⟩ = some (.string ops[i].s) ∧ w.cell? ⟨b, off + i * 4 + 3, none⟩ = some ops[i].e ∧ ∃ ao n c, ops[i].e = .slice ao n c
theorem OpsAt.below {w w' : World} {b off : Nat} {ops : List OpD} (h : OpsAt w b off ops) (hb : Below w.heap.size w w') : OpsAt w' b off ops := fun i hi =>
  let ⟨h1, h2, h3, h4, h5⟩ := h i hi
  ⟨cell_keep hb h1, cell_keep hb h2, cell_keep hb h3, cell_keep hb h4, h5⟩
/-- The step is played to 'true', in whatever later world. -/
def PlaysTrue (w : World) (o : OpD) : Prop := ∀ W, Below w.heap.size w W → Calls Tryz.prog 18 #[opV o] W fun e W' => e = .returned (.bool true) ∧ Below W.heap.size W W'

set_option maxHeartbeats 2000000 in
theorem upTo_true (ops : List OpD) (b off cap n : Nat) (lo hi : Int) (w : World) (hl : ops.length = n) (hn : n ≤ 1000000000000000) (hc : OpsAt w b off ops)
    (hp : ∀ o ∈ ops, lo ≤ o.k → o.k ≤ hi → PlaysTrue w o) :
    Calls Tryz.prog 13 #[.slice (some ⟨b, off, none⟩) n cap, .int .i64 lo, .int .i64 hi] w fun e w' => e = .returned (.int .i64 (-1)) ∧ Below w.heap.size w w' := by
  have HC : Hid (OpsAt w b off ops) := hc
  have HL : Hid (ops.length = n) := hl
  have HP : Hid (∀ o ∈ ops, lo ≤ o.k → o.k ≤ hi → PlaysTrue w o) := hp
  clear hc hl hp
  go_enter Tryz.func13, Tryz.ntmps13
  go_wp2
  go_loopw [7] (fun i wr => ∃ k : Nat, k ≤ n ∧ i = .int .i64 k ∧ Below w.heap.size w wr) (fun i _ => n - (intOf i).toNat)
  case atStart => exact ⟨0, Nat.zero_le _, rfl, Below.refl _ _⟩
  case round =>
    obtain ⟨k, hk, rfl, hb⟩ := hrel
    have hbz := hb.size
    have hk60 : (k : Int) < 1152921504606846976 := by omega
    by_cases hlt : k < n
    · have hlt' : (k : Int) < (n : Int) := by omega
      have hkl : k < ops.length := by rw [HL.out]; exact hlt
      obtain ⟨c0, c1, c2, c3, ao, m, cc, he⟩ := (HC.out.below hb) k hkl
      have HPk : Hid (lo ≤ ops[k].k → ops[k].k ≤ hi → PlaysTrue w ops[k]) := HP.out ops[k] (List.getElem_mem hkl)
      generalize ops[k] = o at *
      obtain ⟨ok, oa, os, oe⟩ := o
      simp only at c0 c1 c2 c3 he
      subst he
      have HPk' : Hid (lo ≤ ok → ok ≤ hi → PlaysTrue w ⟨ok, oa, os, .slice ao m cc⟩) := HPk
      clear HPk hkl
      by_cases h1 : lo ≤ ok
      · by_cases h2 : ok ≤ hi
        · have hb2 : Below w.heap.size w (wr.alloc (.cells #[.int .i64 ok, .int .i64 oa, .string os, .slice ao m cc] 29)) := hb.alloc hbz _
          have HPc : Hid (Calls Tryz.prog 18 #[opV ⟨ok, oa, os, .slice ao m cc⟩] (wr.alloc (.cells #[.int .i64 ok, .int .i64 oa, .string os, .slice ao m cc] 29)) fun e W' => e = .returned (.bool true) ∧ Below (wr.alloc (.cells #[.int .i64 ok, .int .i64 oa, .string os, .slice ao m cc] 29)).heap.size (wr.alloc (.cells #[.int .i64 ok, .int .i64 oa, .string os, .slice ao m cc] 29)) W') := HPk'.out h1 h2 _ hb2
          clear HPk' hb2
          go_wp2_with fail
          refine HPc.out.mono ?_
          rintro e w3 ⟨rfl, hb3⟩
          have hb4 : Below w.heap.size w w3 := (hb.alloc hbz _).trans (hb3.mono (by simp; omega))
          clear hb3 HPc c0 c1 c2 c3
          go_wp2
          go_roundw
          case rel => exact ⟨k + 1, by omega, by go_num, hb4⟩
          case measure => simp [intOf]; omega
        · have h2' : decide (ok ≤ hi) = false := by simpa using h2
          clear HPk'
          go_wp2
          go_roundw
          case rel => exact ⟨k + 1, by omega, by go_num, hb.alloc hbz _⟩
          case measure => simp [intOf]; omega
      · have h1' : decide (lo ≤ ok) = false := by simpa using h1
        clear HPk'
        go_wp2
        go_roundw
        case rel => exact ⟨k + 1, by omega, by go_num, hb.alloc hbz _⟩
        case measure => simp [intOf]; omega
    · have hlt' : ¬ (k : Int) < (n : Int) := by omega
      go_wp2
      go_ret
      exact ⟨rfl, hb⟩

theorem upTo_zero (ao : Option Addr) (cap : Nat) (lo hi : Int) (w : World) :
    Calls Tryz.prog 13 #[.slice ao 0 cap, .int .i64 lo, .int .i64 hi] w fun e w' => e = .returned (.int .i64 (-1)) ∧ Below w.heap.size w w' := by
  go_enter Tryz.func13, Tryz.ntmps13
  go_wp2
  refine wp_loop_rounds 1 ?_
  rw [rounds_succ]
  go_wp2
  go_ret
  exact ⟨rfl, Below.refl _ _⟩
end Go.Proofs.YtkbinfhclaafhaaGreatDoor
