import Derived.Test.YtkbinfhclaafhaaGreatDoorFault
import Derived.Test.YtkbinfhclaafhaaGreatDoorFaultIs
namespace Go.Proofs.YtkbinfhclaafhaaGreatDoor
open Go.RowKit

set_option maxHeartbeats 1000000 in
theorem fault_nil (w : World) : Calls Tryz.prog 36 #[.nilIface] w fun e w' => e = .returned (faultV 0) ∧ Below w.heap.size w w' := by
  go_enter Tryz.func36, Tryz.ntmps36
  go_wp2
  exact bodyPost_ret (v := .agg #[.int .i64 0, .int .i64 0, .int .i64 0]) (by simp [results, Tryz.results36, go_sem]) rfl ⟨rfl, (Below.refl _ _).alloc (Nat.le_refl _) _⟩

set_option maxRecDepth 100000 in
set_option maxHeartbeats 4000000 in
theorem fault_long (w : World) (aL aT aC : Addr) (hE : Env w aL aT aC) : Calls Tryz.prog 36 #[.iface 354 (.pointer (some aL))] w fun e w' => e = .returned (faultV 1) ∧ Below w.heap.size w w' := by
  have HE : Hid (Env w aL aT aC) := hE
  clear hE
  go_enter Tryz.func36, Tryz.ntmps36
  go_wp2_with fail
  refine (as_miss _ _ _ ?_).mono ?_
  · exact (HE.out.below ((((Below.refl _ _).alloc (Nat.le_refl _) _).alloc (by simp) _).alloc (by simp; omega) _)).etype
  rintro e w1 ⟨rfl, hb⟩
  have hB1 : Below w.heap.size w w1 := ((((Below.refl _ _).alloc (Nat.le_refl _) _).alloc (by simp) _).alloc (by simp; omega) _).trans (hb.mono (by simp; omega))
  have HB1 : Hid (Below w.heap.size w w1) := hB1
  have hz : w.heap.size + 3 ≤ w1.heap.size := by have := hb.size; simp at this; omega
  have HE1 : Hid (Env w1 aL aT aC) := HE.out.below hB1
  have hl := HE1.out.long
  have ht := HE1.out.text
  have hco := HE1.out.code
  have r0 : w1.cell? ⟨w.heap.size, 0, none⟩ = some (.int .i64 0) := by rw [hb.cell (p := ⟨w.heap.size, 0, none⟩) (by simp <;> omega)]; go_simp
  have s0 : w1.frozen? ⟨w.heap.size, 0, none⟩ = false := by rw [hb.frozen (p := ⟨w.heap.size, 0, none⟩) (by simp <;> omega)]; go_simp
  have f0 : w1.cell? ⟨w.heap.size + 1, 0, none⟩ = some (.int .i64 4) := by rw [hb.cell (p := ⟨w.heap.size + 1, 0, none⟩) (by simp <;> omega)]; go_simp
  have r1 : w1.cell? ⟨w.heap.size, 1, none⟩ = some (.int .i64 0) := by rw [hb.cell (p := ⟨w.heap.size, 1, none⟩) (by simp <;> omega)]; go_simp
  have s1 : w1.frozen? ⟨w.heap.size, 1, none⟩ = false := by rw [hb.frozen (p := ⟨w.heap.size, 1, none⟩) (by simp <;> omega)]; go_simp
  have f1 : w1.cell? ⟨w.heap.size + 1, 1, none⟩ = some (.int .i64 (-1)) := by rw [hb.cell (p := ⟨w.heap.size + 1, 1, none⟩) (by simp <;> omega)]; go_simp
  have r2 : w1.cell? ⟨w.heap.size, 2, none⟩ = some (.int .i64 0) := by rw [hb.cell (p := ⟨w.heap.size, 2, none⟩) (by simp <;> omega)]; go_simp
  have s2 : w1.frozen? ⟨w.heap.size, 2, none⟩ = false := by rw [hb.frozen (p := ⟨w.heap.size, 2, none⟩) (by simp <;> omega)]; go_simp
  have f2 : w1.cell? ⟨w.heap.size + 1, 2, none⟩ = some (.int .i64 (-1)) := by rw [hb.cell (p := ⟨w.heap.size + 1, 2, none⟩) (by simp <;> omega)]; go_simp
  have g0 : w1.frozen? ⟨w.heap.size + 1, 0, none⟩ = false := by rw [hb.frozen (p := ⟨w.heap.size + 1, 0, none⟩) (by simp <;> omega)]; go_simp
  have h0 : w.heap.size < w1.heap.size := by omega
  have h1 : w.heap.size + 1 < w1.heap.size := by omega
  clear hB1 hb hz
  go_wp2
  refine wp_loop_rounds 4 ?_
  rw [rounds_succ]
  go_wp2_with fail
  refine (is_same aL _).mono ?_
  rintro e w2 ⟨rfl, rfl⟩
  go_wp2
  rw [rounds_succ]
  go_wp2_with fail
  refine (is_other aL aT _ HE.out.neLT ?_ ?_).mono ?_
  · exact (HE.out.below ((HB1.out.setCell (Nat.le_succ _) _).alloc (by simp; omega) _)).blkL
  · exact (HE.out.below ((HB1.out.setCell (Nat.le_succ _) _).alloc (by simp; omega) _)).blkT
  rintro e w3 ⟨rfl, rfl⟩
  go_wp2
  rw [rounds_succ]
  go_wp2_with fail
  refine (is_other aL aC _ HE.out.neLC ?_ ?_).mono ?_
  · exact (HE.out.below ((HB1.out.setCell (Nat.le_succ _) _).alloc (by simp; omega) _)).blkL
  · exact (HE.out.below ((HB1.out.setCell (Nat.le_succ _) _).alloc (by simp; omega) _)).blkC
  rintro e w4 ⟨rfl, rfl⟩
  go_wp2
  rw [rounds_succ]
  go_wp2
  refine bodyPost_ret (v := .agg #[.int .i64 1, .int .i64 (-1), .int .i64 (-1)]) (by simp [results, Tryz.results36, go_sem, r0, r1, r2, h0]) rfl ⟨rfl, ?_⟩
  exact ((((HB1.out.setCell (Nat.le_succ _) _).setCell (Nat.le_refl _) _).setCell (Nat.le_refl _) _).setCell (Nat.le_refl _) _).alloc (by simp; omega) _

set_option maxRecDepth 100000 in
set_option maxHeartbeats 4000000 in
theorem fault_text (w : World) (aL aT aC : Addr) (hE : Env w aL aT aC) : Calls Tryz.prog 36 #[.iface 354 (.pointer (some aT))] w fun e w' => e = .returned (faultV 2) ∧ Below w.heap.size w w' := by
  have HE : Hid (Env w aL aT aC) := hE
  clear hE
  go_enter Tryz.func36, Tryz.ntmps36
  go_wp2_with fail
  refine (as_miss _ _ _ ?_).mono ?_
  · exact (HE.out.below ((((Below.refl _ _).alloc (Nat.le_refl _) _).alloc (by simp) _).alloc (by simp; omega) _)).etype
  rintro e w1 ⟨rfl, hb⟩
  have hB1 : Below w.heap.size w w1 := ((((Below.refl _ _).alloc (Nat.le_refl _) _).alloc (by simp) _).alloc (by simp; omega) _).trans (hb.mono (by simp; omega))
  have HB1 : Hid (Below w.heap.size w w1) := hB1
  have hz : w.heap.size + 3 ≤ w1.heap.size := by have := hb.size; simp at this; omega
  have HE1 : Hid (Env w1 aL aT aC) := HE.out.below hB1
  have hl := HE1.out.long
  have ht := HE1.out.text
  have hco := HE1.out.code
  have r0 : w1.cell? ⟨w.heap.size, 0, none⟩ = some (.int .i64 0) := by rw [hb.cell (p := ⟨w.heap.size, 0, none⟩) (by simp <;> omega)]; go_simp
  have s0 : w1.frozen? ⟨w.heap.size, 0, none⟩ = false := by rw [hb.frozen (p := ⟨w.heap.size, 0, none⟩) (by simp <;> omega)]; go_simp
  have f0 : w1.cell? ⟨w.heap.size + 1, 0, none⟩ = some (.int .i64 4) := by rw [hb.cell (p := ⟨w.heap.size + 1, 0, none⟩) (by simp <;> omega)]; go_simp
  have r1 : w1.cell? ⟨w.heap.size, 1, none⟩ = some (.int .i64 0) := by rw [hb.cell (p := ⟨w.heap.size, 1, none⟩) (by simp <;> omega)]; go_simp
  have s1 : w1.frozen? ⟨w.heap.size, 1, none⟩ = false := by rw [hb.frozen (p := ⟨w.heap.size, 1, none⟩) (by simp <;> omega)]; go_simp
  have f1 : w1.cell? ⟨w.heap.size + 1, 1, none⟩ = some (.int .i64 (-1)) := by rw [hb.cell (p := ⟨w.heap.size + 1, 1, none⟩) (by simp <;> omega)]; go_simp
  have r2 : w1.cell? ⟨w.heap.size, 2, none⟩ = some (.int .i64 0) := by rw [hb.cell (p := ⟨w.heap.size, 2, none⟩) (by simp <;> omega)]; go_simp
  have s2 : w1.frozen? ⟨w.heap.size, 2, none⟩ = false := by rw [hb.frozen (p := ⟨w.heap.size, 2, none⟩) (by simp <;> omega)]; go_simp
  have f2 : w1.cell? ⟨w.heap.size + 1, 2, none⟩ = some (.int .i64 (-1)) := by rw [hb.cell (p := ⟨w.heap.size + 1, 2, none⟩) (by simp <;> omega)]; go_simp
  have g0 : w1.frozen? ⟨w.heap.size + 1, 0, none⟩ = false := by rw [hb.frozen (p := ⟨w.heap.size + 1, 0, none⟩) (by simp <;> omega)]; go_simp
  have h0 : w.heap.size < w1.heap.size := by omega
  have h1 : w.heap.size + 1 < w1.heap.size := by omega
  clear hB1 hb hz
  go_wp2
  refine wp_loop_rounds 4 ?_
  rw [rounds_succ]
  go_wp2_with fail
  refine (is_other aT aL _ HE.out.neLT.symm ?_ ?_).mono ?_
  · exact (HE.out.below (HB1.out.alloc (by omega) _)).blkT
  · exact (HE.out.below (HB1.out.alloc (by omega) _)).blkL
  rintro e w2 ⟨rfl, rfl⟩
  go_wp2
  rw [rounds_succ]
  go_wp2_with fail
  refine (is_same aT _).mono ?_
  rintro e w3 ⟨rfl, rfl⟩
  go_wp2
  rw [rounds_succ]
  go_wp2_with fail
  refine (is_other aT aC _ HE.out.neTC ?_ ?_).mono ?_
  · exact (HE.out.below ((HB1.out.setCell (Nat.le_succ _) _).alloc (by simp; omega) _)).blkT
  · exact (HE.out.below ((HB1.out.setCell (Nat.le_succ _) _).alloc (by simp; omega) _)).blkC
  rintro e w4 ⟨rfl, rfl⟩
  go_wp2
  rw [rounds_succ]
  go_wp2
  refine bodyPost_ret (v := .agg #[.int .i64 2, .int .i64 (-1), .int .i64 (-1)]) (by simp [results, Tryz.results36, go_sem, r0, r1, r2, h0]) rfl ⟨rfl, ?_⟩
  exact ((((HB1.out.setCell (Nat.le_succ _) _).setCell (Nat.le_refl _) _).setCell (Nat.le_refl _) _).setCell (Nat.le_refl _) _).alloc (by simp; omega) _

set_option maxRecDepth 100000 in
set_option maxHeartbeats 4000000 in
theorem fault_code (w : World) (aL aT aC : Addr) (hE : Env w aL aT aC) : Calls Tryz.prog 36 #[.iface 354 (.pointer (some aC))] w fun e w' => e = .returned (faultV 3) ∧ Below w.heap.size w w' := by
  have HE : Hid (Env w aL aT aC) := hE
  clear hE
  go_enter Tryz.func36, Tryz.ntmps36
  go_wp2_with fail
  refine (as_miss _ _ _ ?_).mono ?_
  · exact (HE.out.below ((((Below.refl _ _).alloc (Nat.le_refl _) _).alloc (by simp) _).alloc (by simp; omega) _)).etype
  rintro e w1 ⟨rfl, hb⟩
  have hB1 : Below w.heap.size w w1 := ((((Below.refl _ _).alloc (Nat.le_refl _) _).alloc (by simp) _).alloc (by simp; omega) _).trans (hb.mono (by simp; omega))
  have HB1 : Hid (Below w.heap.size w w1) := hB1
  have hz : w.heap.size + 3 ≤ w1.heap.size := by have := hb.size; simp at this; omega
  have HE1 : Hid (Env w1 aL aT aC) := HE.out.below hB1
  have hl := HE1.out.long
  have ht := HE1.out.text
  have hco := HE1.out.code
  have r0 : w1.cell? ⟨w.heap.size, 0, none⟩ = some (.int .i64 0) := by rw [hb.cell (p := ⟨w.heap.size, 0, none⟩) (by simp <;> omega)]; go_simp
  have s0 : w1.frozen? ⟨w.heap.size, 0, none⟩ = false := by rw [hb.frozen (p := ⟨w.heap.size, 0, none⟩) (by simp <;> omega)]; go_simp
  have f0 : w1.cell? ⟨w.heap.size + 1, 0, none⟩ = some (.int .i64 4) := by rw [hb.cell (p := ⟨w.heap.size + 1, 0, none⟩) (by simp <;> omega)]; go_simp
  have r1 : w1.cell? ⟨w.heap.size, 1, none⟩ = some (.int .i64 0) := by rw [hb.cell (p := ⟨w.heap.size, 1, none⟩) (by simp <;> omega)]; go_simp
  have s1 : w1.frozen? ⟨w.heap.size, 1, none⟩ = false := by rw [hb.frozen (p := ⟨w.heap.size, 1, none⟩) (by simp <;> omega)]; go_simp
  have f1 : w1.cell? ⟨w.heap.size + 1, 1, none⟩ = some (.int .i64 (-1)) := by rw [hb.cell (p := ⟨w.heap.size + 1, 1, none⟩) (by simp <;> omega)]; go_simp
  have r2 : w1.cell? ⟨w.heap.size, 2, none⟩ = some (.int .i64 0) := by rw [hb.cell (p := ⟨w.heap.size, 2, none⟩) (by simp <;> omega)]; go_simp
  have s2 : w1.frozen? ⟨w.heap.size, 2, none⟩ = false := by rw [hb.frozen (p := ⟨w.heap.size, 2, none⟩) (by simp <;> omega)]; go_simp
  have f2 : w1.cell? ⟨w.heap.size + 1, 2, none⟩ = some (.int .i64 (-1)) := by rw [hb.cell (p := ⟨w.heap.size + 1, 2, none⟩) (by simp <;> omega)]; go_simp
  have g0 : w1.frozen? ⟨w.heap.size + 1, 0, none⟩ = false := by rw [hb.frozen (p := ⟨w.heap.size + 1, 0, none⟩) (by simp <;> omega)]; go_simp
  have h0 : w.heap.size < w1.heap.size := by omega
  have h1 : w.heap.size + 1 < w1.heap.size := by omega
  clear hB1 hb hz
  go_wp2
  refine wp_loop_rounds 4 ?_
  rw [rounds_succ]
  go_wp2_with fail
  refine (is_other aC aL _ HE.out.neLC.symm ?_ ?_).mono ?_
  · exact (HE.out.below (HB1.out.alloc (by omega) _)).blkC
  · exact (HE.out.below (HB1.out.alloc (by omega) _)).blkL
  rintro e w2 ⟨rfl, rfl⟩
  go_wp2
  rw [rounds_succ]
  go_wp2_with fail
  refine (is_other aC aT _ HE.out.neTC.symm ?_ ?_).mono ?_
  · exact (HE.out.below (HB1.out.alloc (by omega) _)).blkC
  · exact (HE.out.below (HB1.out.alloc (by omega) _)).blkT
  rintro e w3 ⟨rfl, rfl⟩
  go_wp2
  rw [rounds_succ]
  go_wp2_with fail
  refine (is_same aC _).mono ?_
  rintro e w4 ⟨rfl, rfl⟩
  go_wp2
  rw [rounds_succ]
  go_wp2
  refine bodyPost_ret (v := .agg #[.int .i64 3, .int .i64 (-1), .int .i64 (-1)]) (by simp [results, Tryz.results36, go_sem, r0, r1, r2, h0]) rfl ⟨rfl, ?_⟩
  exact ((((HB1.out.setCell (Nat.le_succ _) _).setCell (Nat.le_refl _) _).setCell (Nat.le_refl _) _).setCell (Nat.le_refl _) _).alloc (by simp; omega) _

theorem fault_any (er : Int) (h : er = 0 ∨ er = 1 ∨ er = 2 ∨ er = 3) (w : World) (aL aT aC : Addr) (hE : Env w aL aT aC) :
    Calls Tryz.prog 36 #[errV er aL aT aC] w fun e w' => e = .returned (faultV er) ∧ Below w.heap.size w w' := by
  rcases h with rfl | rfl | rfl | rfl
  · exact fault_nil w
  · exact fault_long w aL aT aC hE
  · exact fault_text w aL aT aC hE
  · exact fault_code w aL aT aC hE
end Go.Proofs.YtkbinfhclaafhaaGreatDoor
