import Derived.Test.YtkbinfhclaafhaaGreatDoorUpTo
import Derived.Test.YtkbinfhclaafhaaGreatDoorGuardClasses
namespace Go.Proofs.YtkbinfhclaafhaaGreatDoor
open Go.RowKit

theorem askErr_cases (s : ByteArray) : askErr s = 0 ∨ askErr s = 1 ∨ askErr s = 2 := by
  by_cases h6 : 600 < s.size
  · exact .inr (.inl (ask_long h6))
  · cases hr : runesOf s with
    | none => exact .inr (.inr (ask_none h6 hr))
    | some l =>
      by_cases ha : amongB 10 l = true
      · exact .inr (.inr (ask_feed h6 hr ha))
      · by_cases h3 : 300 < l.length
        · exact .inr (.inl (ask_many h6 hr ha h3))
        · exact .inl (ask_ok h6 hr ha h3)
theorem askErr_ok {s : ByteArray} (h : askErr s = 0) : s.size ≤ 600 ∧ ∃ l, runesOf s = some l ∧ askRunes s = l ∧ l.length ≤ 300 := by
  have h6 : ¬ 600 < s.size := fun h6 => by rw [ask_long h6] at h; cases h
  cases hr : runesOf s with
  | none => rw [ask_none h6 hr] at h; cases h
  | some l => exact ⟨by omega, l, rfl, askRunes_ok h hr, askRunes_ok h hr ▸ askRunes_le s⟩

theorem guardClasses_any (s : ByteArray) (w : World) (aL aT aC : Addr) (hs : s.size ≤ 9223372036854775807) (hE : Env w aL aT aC) :
    Calls Tryz.prog 44 #[.string s] w fun e w' => ∃ v, e = .returned (.tuple #[v, errV (askErr s) aL aT aC]) ∧ w'.ownsRow w.heap.size 3 1 v ((askRunes s).map cls).length (((askRunes s).map cls).map (Value.int .i64)) ∧ (askErr s ≠ 0 → v = .slice none 0 0) ∧ Below w.heap.size w w' := by
  by_cases h0 : askErr s = 0
  · obtain ⟨h6, l, hr, ha, hl⟩ := askErr_ok h0
    refine (guardClasses_ok s l w aL aT aC h6 hE h0 hr).mono ?_
    rintro e w' ⟨v, rfl, hown, hb⟩
    refine ⟨v, by rw [h0]; rfl, ?_, fun h => absurd h0 h, hb⟩
    rw [ha]
    simpa using hown
  · refine (guardClasses_err s w aL aT aC hs hE (by have := askErr_cases s; omega)).mono ?_
    rintro e w' ⟨rfl, hb⟩
    exact ⟨_, rfl, by rw [askRunes_err h0]; exact World.ownsRow_nil _ _ _ _, fun _ => rfl, hb⟩

set_option maxHeartbeats 2000000 in
theorem plainClasses_any (s : ByteArray) (w : World) (aL aT aC : Addr) (hs : s.size ≤ 9223372036854775807) (hE : Env w aL aT aC) :
    Calls Tryz.prog 26 #[.string s] w fun e w' => ∃ v, e = .returned (.tuple #[v, faultV (askErr s)]) ∧ SlI w' v ((askRunes s).map cls) ∧ (askErr s ≠ 0 → v = .slice none 0 0) ∧ Below w.heap.size w w' := by
  have HE : Hid (Env w aL aT aC) := hE
  have hcs := askErr_cases s
  clear hE
  go_enter Tryz.func26, Tryz.ntmps26
  go_wp2_with fail
  have hb0 : ∀ o : Obj, Below w.heap.size w (w.alloc o) := fun o => (Below.refl _ _).alloc (Nat.le_refl _) o
  refine (guardClasses_any s _ aL aT aC hs (HE.out.below (hb0 _))).mono ?_
  rintro e w1 ⟨v, rfl, hsl, hnil, hb1⟩
  have hB1 : Below w.heap.size w w1 := (hb0 _).trans (hb1.mono (by simp))
  have HE1 : Hid (Env w1 aL aT aC) := HE.out.below hB1
  obtain ⟨ev, hev⟩ : ∃ ev, ev = errV (askErr s) aL aT aC := ⟨_, rfl⟩
  rw [← hev]
  have HF : Hid (Calls Tryz.prog 36 #[ev] w1 fun e w' => e = .returned (faultV (askErr s)) ∧ Below w1.heap.size w1 w') := by
    rw [hev]; exact fault_any _ (by omega) w1 aL aT aC HE1.out
  have k0 : w1.cell? ⟨w.heap.size, 0, none⟩ = some (.int .i64 0) := by rw [hb1.cell (p := ⟨w.heap.size, 0, none⟩) (by simp)]; go_simp
  have k1 : w1.cell? ⟨w.heap.size, 1, none⟩ = some (.int .i64 0) := by rw [hb1.cell (p := ⟨w.heap.size, 1, none⟩) (by simp)]; go_simp
  have k2 : w1.cell? ⟨w.heap.size, 2, none⟩ = some (.int .i64 0) := by rw [hb1.cell (p := ⟨w.heap.size, 2, none⟩) (by simp)]; go_simp
  have f0 : w1.frozen? ⟨w.heap.size, 0, none⟩ = false := by rw [hb1.frozen (p := ⟨w.heap.size, 0, none⟩) (by simp)]; go_simp
  have f1 : w1.frozen? ⟨w.heap.size, 1, none⟩ = false := by rw [hb1.frozen (p := ⟨w.heap.size, 1, none⟩) (by simp)]; go_simp
  have f2 : w1.frozen? ⟨w.heap.size, 2, none⟩ = false := by rw [hb1.frozen (p := ⟨w.heap.size, 2, none⟩) (by simp)]; go_simp
  have hz : w.heap.size < w1.heap.size := by have := hb1.size; simp at this; omega
  have HB1 : Hid (Below w.heap.size w w1) := hB1
  have HS : Hid (w1.ownsRow (w.heap.size + 1) 3 1 v ((askRunes s).map cls).length (((askRunes s).map cls).map (Value.int .i64))) := hsl.low (by simp)
  have HN : Hid (askErr s ≠ 0 → v = .slice none 0 0) := hnil
  clear hev hB1 hb1 hb0 hsl hnil
  go_wp2_with fail
  refine HF.out.mono ?_
  rintro e w2 ⟨rfl, hb2⟩
  obtain ⟨er, m, hfv⟩ : ∃ er m, faultV (askErr s) = .agg #[.int .i64 er, .int .i64 m, .int .i64 m] := ⟨_, _, rfl⟩
  have HFV : Hid (faultV (askErr s) = .agg #[.int .i64 er, .int .i64 m, .int .i64 m]) := hfv
  rw [hfv]
  have j0 : w2.cell? ⟨w.heap.size, 0, none⟩ = some (.int .i64 0) := cell_keep hb2 k0
  have j1 : w2.cell? ⟨w.heap.size, 1, none⟩ = some (.int .i64 0) := cell_keep hb2 k1
  have j2 : w2.cell? ⟨w.heap.size, 2, none⟩ = some (.int .i64 0) := cell_keep hb2 k2
  have g0 : w2.frozen? ⟨w.heap.size, 0, none⟩ = false := (hb2.frozen (p := ⟨w.heap.size, 0, none⟩) hz).trans f0
  have g1 : w2.frozen? ⟨w.heap.size, 1, none⟩ = false := (hb2.frozen (p := ⟨w.heap.size, 1, none⟩) hz).trans f1
  have g2 : w2.frozen? ⟨w.heap.size, 2, none⟩ = false := (hb2.frozen (p := ⟨w.heap.size, 2, none⟩) hz).trans f2
  have HB2 : Hid (Below w.heap.size w w2) := HB1.out.trans (hb2.mono HB1.out.size)
  have HS2 : Hid (w2.ownsRow (w.heap.size + 1) 3 1 v ((askRunes s).map cls).length (((askRunes s).map cls).map (Value.int .i64))) := ownsRow_blocks HS.out fun k o _ ho => heap_keep hb2 ho
  clear hfv hb2 k0 k1 k2 f0 f1 f2 HF
  go_wp2
  refine bodyPost_ret (v := .tuple #[v, .agg #[.int .i64 er, .int .i64 m, .int .i64 m]]) (by simp [results, Tryz.results26, go_sem, j0, j1, j2]) rfl ⟨v, by rw [HFV.out], ?_, HN.out, ?_⟩
  · exact SlI.of_owns (ownsRow_setCell_below (ownsRow_setCell_below (ownsRow_setCell_below HS2.out (by simp) _) (by simp) _) (by simp) _)
  · exact ((HB2.out.setCell (Nat.le_refl _) _).setCell (Nat.le_refl _) _).setCell (Nat.le_refl _) _

set_option maxRecDepth 100000 in
set_option maxHeartbeats 2000000 in
theorem plays_classes (o : OpD) (w : World) (aL aT aC : Addr) (hk : o.k = 1) (hs : o.s.size ≤ 9223372036854775807) (hE : Env w aL aT aC) :
    Calls Tryz.prog 18 #[opV o] w fun e w' => e = .returned (.bool true) ∧ Below w.heap.size w w' := by
  obtain ⟨k, a, s, oe⟩ := o
  simp only at hk hs
  subst hk
  unfold opV
  have HE : Hid (Env w aL aT aC) := hE
  have hle := askRunes_le s
  clear hE
  go_enter Tryz.func18, Tryz.ntmps18
  go_wp2_with fail
  have hb0 : Below w.heap.size w (w.alloc (.cells #[.int .i64 1, .int .i64 a, .string s, oe] 29)) := (Below.refl _ _).alloc (Nat.le_refl _) _
  refine (plainClasses_any s _ aL aT aC hs (HE.out.below hb0)).mono ?_
  rintro e w1 ⟨v, rfl, hsl, hnil, hb1⟩
  have hB1 : Below w.heap.size w w1 := hb0.trans (hb1.mono (by simp))
  have k2 : w1.cell? ⟨w.heap.size, 2, none⟩ = some (.string s) := by rw [hb1.cell (p := ⟨w.heap.size, 2, none⟩) (by simp)]; go_simp
  have hz1 : w.heap.size < w1.heap.size := by have := hb1.size; simp at this; omega
  have HB1 : Hid (Below w.heap.size w w1) := hB1
  have HS1 : Hid (SlI w1 v ((askRunes s).map cls)) := hsl
  have HN : Hid (askErr s ≠ 0 → v = .slice none 0 0) := hnil
  obtain ⟨er, m, hfv⟩ : ∃ er m, faultV (askErr s) = .agg #[.int .i64 er, .int .i64 m, .int .i64 m] ∧ er = askErr s := ⟨_, _, rfl, rfl⟩
  have HFV : Hid (faultV (askErr s) = .agg #[.int .i64 er, .int .i64 m, .int .i64 m]) := hfv.1
  have HER : Hid (er = askErr s) := hfv.2
  rw [hfv.1]
  clear hfv hb1 hb0 hB1 hsl hnil
  go_wp2_with fail
  refine (refClasses_any s _).mono ?_
  rintro e w2 ⟨hb2, v2, rfl, hsl2⟩
  rw [HFV.out]
  have hz2 : w1.heap.size < w2.heap.size := by have := hb2.size; simp at this; omega
  have a0 : w2.cell? ⟨w1.heap.size, 0, none⟩ = some (.int .i64 er) := by rw [hb2.cell (p := ⟨w1.heap.size, 0, none⟩) (by simp)]; go_simp
  have a1 : w2.cell? ⟨w1.heap.size, 1, none⟩ = some (.int .i64 m) := by rw [hb2.cell (p := ⟨w1.heap.size, 1, none⟩) (by simp)]; go_simp
  have a2 : w2.cell? ⟨w1.heap.size, 2, none⟩ = some (.int .i64 m) := by rw [hb2.cell (p := ⟨w1.heap.size, 2, none⟩) (by simp)]; go_simp
  have hB2 : Below w1.heap.size w1 w2 := ((Below.refl _ _).alloc (Nat.le_refl _) _).trans (hb2.mono (by simp))
  have HS3 : Hid (SlI w2 v ((askRunes s).map cls)) := HS1.out.below hB2
  have HS4 : Hid (SlI w2 v2 ((askRunes s).map cls)) := hsl2
  have HB2 : Hid (Below w.heap.size w w2) := HB1.out.trans (hB2.mono HB1.out.size)
  clear hb2 hsl2 hB2 k2
  go_wp2_with fail
  have hb3 : ∀ o : Obj, Below w2.heap.size w2 (w2.alloc o) := fun o => (Below.refl _ _).alloc (Nat.le_refl _) o
  refine (numbers_any er m m _ v v2 _ (by simp; omega) (HS3.out.below (hb3 _)) (HS4.out.below (hb3 _)) (fun h => HN.out (by rw [← HER.out]; exact h))).mono ?_
  rintro e w3 ⟨rfl, hb4⟩
  go_wp2
  go_ret
  exact ⟨rfl, (HB2.out.trans ((hb3 _).mono HB2.out.size)).trans (hb4.mono (by have := HB2.out.size; simp; omega))⟩

theorem classes_law_row (ops : List OpD) (b off cap n : Nat) (w : World) (aL aT aC : Addr) (hE : Env w aL aT aC) (hl : ops.length = n) (hn : n ≤ 1000000000000000) (hc : OpsAt w b off ops) (hs : ∀ o ∈ ops, o.s.size ≤ 9223372036854775807) :
    Calls Tryz.prog 3 #[.slice (some ⟨b, off, none⟩) n cap] w fun e w' => e = .returned (.bool true) ∧ Below w.heap.size w w' := by
  have HU : Hid (Calls Tryz.prog 13 #[.slice (some ⟨b, off, none⟩) n cap, .int .i64 1, .int .i64 1] w fun e w' => e = .returned (.int .i64 (-1)) ∧ Below w.heap.size w w') :=
    upTo_true ops b off cap n 1 1 w hl hn hc fun o ho h1 h2 W hW => plays_classes o W aL aT aC (by omega) (hs o ho) (hE.below hW)
  clear hE hc hs
  go_enter Tryz.func3, Tryz.ntmps3
  go_wp2_with fail
  refine HU.out.mono ?_
  rintro e w1 ⟨rfl, hb⟩
  go_wp2
  go_ret
  exact ⟨rfl, hb⟩
theorem classes_law_zero (ao : Option Addr) (cap : Nat) (w : World) :
    Calls Tryz.prog 3 #[.slice ao 0 cap] w fun e w' => e = .returned (.bool true) ∧ Below w.heap.size w w' := by
  go_enter Tryz.func3, Tryz.ntmps3
  go_wp2_with fail
  refine (upTo_zero ao cap 1 1 w).mono ?_
  rintro e w1 ⟨rfl, hb⟩
  go_wp2
  go_ret
  exact ⟨rfl, hb⟩
end Go.Proofs.YtkbinfhclaafhaaGreatDoor
