import Derived.Test.YtkbinfhclaafhaaGreatDoorM08
import Derived.Deep.LoopGhost
import Derived.Deep.RegionWith
import Derived.Test.YtkbinfhclaafhaaGreatDoorM07
namespace Go.Proofs.YtkbinfhclaafhaaGreatDoor
open Go.RowKit
theorem Tryz.bentL (l o : Int) (i : Bool) (w : World) : (Instr.field 215 (.agg #[.int .i64 l, .int .i64 o, .bool i]) 0).run Tryz.prog w = .ok (.int .i64 l) w := by kernel_rfl
theorem Tryz.bentI (l o : Int) (i : Bool) (w : World) : (Instr.field 215 (.agg #[.int .i64 l, .int .i64 o, .bool i]) 2).run Tryz.prog w = .ok (.bool i) w := by kernel_rfl
set_option maxRecDepth 100000 in
set_option maxHeartbeats 2000000 in
theorem fitsW_any (w : World) (B s : Nat) (v lp : Value) (x : XS) (n : Int) (h : WAt w B s v lp x) : Calls Tryz.prog 240 #[.pointer (some ⟨s, 0, none⟩), .int .i64 n] w fun e w' => e = .returned (.bool (freeX x n)) ∧ w' = w := by
 have c2 : w.cell? ⟨s, 2, none⟩ = some (.int .i64 x.isos) := heap_cell h.cell 2
 have c3 : w.cell? ⟨s, 3, none⟩ = some (.int .i64 x.embs) := heap_cell h.cell 3
 unfold freeX
 clear h
 generalize x.isos = a at *
 generalize x.embs = b at *
 by_cases h1 : n ≤ 125
 ·by_cases h2 : a = 0
  ·by_cases h3 : b = 0
   ·subst h2 h3
    go_enter Tryz.func240, Tryz.ntmps240
    go_wp2
    go_ret
    simp [h1]
   ·have h3' : (b == 0) = false := by simpa using h3
    subst h2
    go_enter Tryz.func240, Tryz.ntmps240
    go_wp2
    go_ret
    simp [h3]
  ·have h2' : (a == 0) = false := by simpa using h2
   go_enter Tryz.func240, Tryz.ntmps240
   go_wp2
   go_ret
   simp [h2]
 ·go_enter Tryz.func240, Tryz.ntmps240
  go_wp2
  go_ret
  simp
  omega
set_option maxRecDepth 100000 in
set_option maxHeartbeats 2000000 in
theorem nextW_any (w : World) (B s : Nat) (v lp : Value) (x : XS) (odd : Int) (h : WAt w B s v lp x) (hne : x.st ≠ []) (hn : x.st.length ≤ 100000) (hl : 0 ≤ (topE x.st).l) (hl' : (topE x.st).l ≤ 1000) : Calls Tryz.prog 239 #[.pointer (some ⟨s, 0, none⟩), .int .i64 odd] w fun ev w' => ev = .returned (.int .i64 (nextL (topE x.st).l odd)) ∧ Below w.heap.size w w' := by
 have he : x.st[x.st.length - 1]? = some (topE x.st) := by
  have h1 : x.st.length - 1 < x.st.length := by have := List.length_pos_iff.2 hne; omega
  unfold topE
  rw [List.getLastD_eq_getLast?, List.getLast?_eq_getElem?, List.getElem?_eq_getElem h1]; rfl
 have HT : Hid (Calls Tryz.prog 238 #[.pointer (some ⟨s, 1, none⟩)] w fun ev w' => ev = .returned (.agg #[.int .i64 (topE x.st).l, .int .i64 (topE x.st).o, .bool (topE x.st).i]) ∧ Below w.heap.size w w') := topE_any w B s v lp x _ h he hn
 have fL := Tryz.bentL
 clear he h hne hn
 generalize topE x.st = t at *
 obtain ⟨l, o, i⟩ := t
 simp only at HT hl hl' ⊢
 unfold nextL
 by_cases hq : (l + 1) % 2 = odd
 ·rw [if_pos hq]
  have hq' : ((l + 1) % 2 != odd) = false := by simp [hq]
  have HQ : Hid ((l + 1) % 2 = odd) := hq
  clear hq
  go_enter Tryz.func239, Tryz.ntmps239
  go_wp2_with fail
  refine HT.out.mono ?_
  rintro ev w2 ⟨rfl, hb⟩
  have HB : Hid _ := hb
  clear hb
  go_wp2_with fail
  refine (sideOf_any (l + 1) _ (by omega)).mono ?_
  rintro ev w3 ⟨rfl, rfl⟩
  go_wp2
  go_ret
  exact ⟨rfl, HB.out⟩
 ·rw [if_neg hq]
  have hq' : ((l + 1) % 2 != odd) = true := by simp [hq]
  have HQ : Hid (¬ (l + 1) % 2 = odd) := hq
  clear hq
  go_enter Tryz.func239, Tryz.ntmps239
  go_wp2_with fail
  refine HT.out.mono ?_
  rintro ev w2 ⟨rfl, hb⟩
  have HB : Hid _ := hb
  clear hb
  go_wp2_with fail
  refine (sideOf_any (l + 1) _ (by omega)).mono ?_
  rintro ev w3 ⟨rfl, rfl⟩
  go_wp2
  go_ret
  exact ⟨ret_int (by omega), HB.out⟩
theorem WAt.setIsos {w : World} {B s : Nat} {v lp : Value} {x : XS} (h : WAt w B s v lp x) (e : Int) : WAt (w.setCell ⟨s, 2, none⟩ (.int .i64 e)) B s v lp { x with isos := e } := ⟨by rw [Joins.block_setCell h.cell]; rfl, row_set h.row h.ne 2 _, h.low⟩
theorem WAt.setEmbs {w : World} {B s : Nat} {v lp : Value} {x : XS} (h : WAt w B s v lp x) (e : Int) : WAt (w.setCell ⟨s, 3, none⟩ (.int .i64 e)) B s v lp { x with embs := e } := ⟨by rw [Joins.block_setCell h.cell]; rfl, row_set h.row h.ne 3 _, h.low⟩
theorem WAt.setValid {w : World} {B s : Nat} {v lp : Value} {x : XS} (h : WAt w B s v lp x) (e : Int) : WAt (w.setCell ⟨s, 4, none⟩ (.int .i64 e)) B s v lp { x with valid := e } := ⟨by rw [Joins.block_setCell h.cell]; rfl, row_set h.row h.ne 4 _, h.low⟩
theorem FrS.set (w : World) (s : Nat) (v : Value) (k : Nat) (u : Value) : FrS w (w.setCell ⟨s, k, none⟩ u) s v v := ⟨rfl, rfl, rfl, by simp, fun k' _ hks _ => by rw [Below.heap_setCell]; exact hks, .inl rfl⟩
theorem FrS.trans {w w2 w3 : World} {s : Nat} {v v2 v3 : Value} (h : FrS w w2 s v v2) (h2 : FrS w2 w3 s v2 v3) : FrS w w3 s v v3 :=
 ⟨h2.os.trans h.os, h2.tape.trans h.tape, h2.output.trans h.output, Nat.le_trans h.size h2.size, fun k hk hks hkv => by
  rw [h2.block k (Nat.lt_of_lt_of_le hk h.size) hks, h.block k hk hks hkv]
  rcases h.own with e | e
  ·rw [e]; exact hkv
  ·intro e'; have := e k e'; omega, by
  rcases h2.own with e2 | e2
  ·rw [e2]; exact h.own
  ·exact .inr fun k hk => Nat.le_trans h.size (e2 k hk)⟩
theorem topE_get' {st : List Ent} (hne : st ≠ []) : st[st.length - 1]? = some (topE st) := by
 have h1 : st.length - 1 < st.length := by have := List.length_pos_iff.2 hne; omega
 unfold topE
 rw [List.getLastD_eq_getLast?, List.getLast?_eq_getElem?, List.getElem?_eq_getElem h1]; rfl
theorem topE_split {st : List Ent} (hne : st ≠ []) : st = st.dropLast ++ [topE st] := by
 have := List.dropLast_concat_getLast hne
 rw [topE, List.getLastD_eq_getLast?, List.getLast?_eq_some_getLast hne]
 exact this.symm
set_option maxRecDepth 100000 in
set_option maxHeartbeats 4000000 in
theorem isolateW_any (w : World) (B s : Nat) (v lp : Value) (x : XS) (odd : Int) (h : WAt w B s v lp x) (hne : x.st ≠ []) (hn : x.st.length ≤ 1000) (hl : 0 ≤ (topE x.st).l) (hl' : (topE x.st).l ≤ 1000) (hi : 0 ≤ x.isos ∧ x.isos ≤ 100000) (hv : 0 ≤ x.valid ∧ x.valid ≤ 100000) :
  Calls Tryz.prog 204 #[.pointer (some ⟨s, 0, none⟩), .int .i64 odd] w fun ev w' => ev = .returned (.tuple #[]) ∧ ∃ v', WAt w' B s v' lp (beginX x odd) ∧ FrS w w' s v v' := by
 have HN : Hid (Calls Tryz.prog 239 #[.pointer (some ⟨s, 0, none⟩), .int .i64 odd] w fun ev w' => ev = .returned (.int .i64 (nextL (topE x.st).l odd)) ∧ Below w.heap.size w w') := nextW_any w B s v lp x odd h hne (by omega) hl hl'
 have HW : Hid (∀ W, Below w.heap.size w W → WAt W B s v lp x) := fun W hb => h.below hb
 have HL : Hid (x.st.length ≤ 1000) := hn
 unfold beginX
 generalize nextL (topE x.st).l odd = n at *
 simp only
 clear h hne hn hl hl'
 obtain ⟨st, isos, embs, valid⟩ := x
 simp only at HN HW HL hi hv ⊢
 by_cases hf : freeX ⟨st, isos, embs, valid⟩ n = true
 ·rw [if_pos hf]
  have HF : Hid (freeX ⟨st, isos, embs, valid⟩ n = true) := hf
  clear hf
  go_enter Tryz.func204, Tryz.ntmps204
  go_wp2_with fail
  refine HN.out.mono ?_
  rintro ev w2 ⟨rfl, hb⟩
  have HB : Hid _ := hb
  clear hb
  go_wp2_with fail
  refine (fitsW_any w2 B s v lp _ n (HW.out w2 HB.out)).mono ?_
  rintro ev wx ⟨rfl, hx⟩
  have hx' := hx.symm
  subst hx'
  rw [HF.out]
  have c4 : w2.cell? ⟨s, 4, none⟩ = some (.int .i64 valid) := heap_cell (HW.out _ HB.out).cell 4
  have f4 : w2.frozen? ⟨s, 4, none⟩ = false := heap_free (HW.out _ HB.out).cell 4
  go_wp2_with fail
  refine (pushE_any _ B s v lp _ n (-1) true ((HW.out _ HB.out).setValid (valid + 1)) (by have := HL.out; simp only; omega)).mono ?_
  rintro ev w3 ⟨rfl, v', hS, hF⟩
  have HS : Hid _ := hS
  have HG : Hid _ := FrS.pre HB.out ((FrS.set w2 s v 4 (.int .i64 (valid + 1))).trans hF)
  clear hS hF
  go_wp2
  go_end0
  exact ⟨rfl, _, HS.out, HG.out⟩
 ·rw [if_neg hf]
  have hf' : freeX ⟨st, isos, embs, valid⟩ n = false := by simpa using hf
  have HF : Hid (freeX ⟨st, isos, embs, valid⟩ n = false) := hf'
  clear hf hf'
  go_enter Tryz.func204, Tryz.ntmps204
  go_wp2_with fail
  refine HN.out.mono ?_
  rintro ev w2 ⟨rfl, hb⟩
  have HB : Hid _ := hb
  clear hb
  go_wp2_with fail
  refine (fitsW_any w2 B s v lp _ n (HW.out w2 HB.out)).mono ?_
  rintro ev wx ⟨rfl, hx⟩
  have hx' := hx.symm
  subst hx'
  rw [HF.out]
  have c4 : w2.cell? ⟨s, 2, none⟩ = some (.int .i64 isos) := heap_cell (HW.out _ HB.out).cell 2
  have f4 : w2.frozen? ⟨s, 2, none⟩ = false := heap_free (HW.out _ HB.out).cell 2
  go_wp2
  exact bodyPost_ret (results_none rfl _ _ _) rfl ⟨rfl, _, (HW.out _ HB.out).setIsos _, FrS.pre HB.out (FrS.set _ s v 2 _)⟩
set_option maxRecDepth 100000 in
set_option maxHeartbeats 4000000 in
theorem popW_any (w : World) (B s : Nat) (v lp : Value) (x : XS) (h : WAt w B s v lp x) (hne : x.st ≠ []) (hn : x.st.length ≤ 1000) (he : x.embs ≤ 100000) :
  Calls Tryz.prog 206 #[.pointer (some ⟨s, 0, none⟩)] w fun ev w' => ev = .returned (.tuple #[]) ∧ ∃ v', WAt w' B s v' lp (popX x) ∧ FrS w w' s v v' := by
 have c2 : w.cell? ⟨s, 2, none⟩ = some (.int .i64 x.isos) := heap_cell h.cell 2
 have c3 : w.cell? ⟨s, 3, none⟩ = some (.int .i64 x.embs) := heap_cell h.cell 3
 have f3 : w.frozen? ⟨s, 3, none⟩ = false := heap_free h.cell 3
 have HH : Hid (WAt w B s v lp x) := h
 unfold popX
 by_cases h1 : 0 < x.isos
 ·rw [if_pos h1]
  clear h he
  go_enter Tryz.func206, Tryz.ntmps206
  go_wp2
  go_end0
  exact ⟨rfl, _, HH.out, FrS.refl _ _ _⟩
 ·rw [if_neg h1]
  by_cases h2 : 0 < x.embs
  ·rw [if_pos h2]
   clear h
   go_enter Tryz.func206, Tryz.ntmps206
   go_wp2
   go_end0
   exact ⟨rfl, _, HH.out.setEmbs _, FrS.set _ _ _ _ _⟩
  ·rw [if_neg h2]
   have HT : Hid (Calls Tryz.prog 238 #[.pointer (some ⟨s, 1, none⟩)] w fun ev w' => ev = .returned (.agg #[.int .i64 (topE x.st).l, .int .i64 (topE x.st).o, .bool (topE x.st).i]) ∧ Below w.heap.size w w') := topE_any w B s v lp x _ h (topE_get' hne) (by omega)
   have fI := Tryz.bentI
   have HP : Hid (∀ W, Below w.heap.size w W → Calls Tryz.prog 237 #[.pointer (some ⟨s, 1, none⟩)] W fun ev w' => ev = .returned (.tuple #[.agg #[.int .i64 (topE x.st).l, .int .i64 (topE x.st).o, .bool (topE x.st).i], .bool true]) ∧ ∃ v', WAt w' B s v' lp { x with st := x.st.dropLast } ∧ FrS W w' s v v') := fun W hb => popE_some W B s v lp x x.st.dropLast (topE x.st) (h.below hb) (topE_split hne) (by simp; omega)
   have HLn : Hid (∀ W, Below w.heap.size w W → Calls Tryz.prog 241 #[.pointer (some ⟨s, 1, none⟩)] W fun e w' => e = .returned (.int .i64 x.st.length) ∧ w' = W) := fun W hb => lenE_any W B s v lp x (h.below hb)
   clear h
   by_cases h3 : (topE x.st).i = true
   ·rw [if_neg (by simp [h3])]
    go_enter Tryz.func206, Tryz.ntmps206
    go_wp2_with fail
    refine HT.out.mono ?_
    rintro ev w2 ⟨rfl, hb⟩
    have HB : Hid _ := hb
    clear hb
    rw [h3]
    go_wp2
    go_end0
    exact ⟨rfl, _, HH.out.below HB.out, FrS.pre HB.out (FrS.refl _ _ _)⟩
   ·have h3' : (topE x.st).i = false := by simpa using h3
    by_cases h4 : 1 < x.st.length
    ·rw [if_pos ⟨h3', h4⟩]
     have h4' : (2 : Int) ≤ x.st.length := by omega
     generalize x.st.length = L at *
     go_enter Tryz.func206, Tryz.ntmps206
     go_wp2_with fail
     refine HT.out.mono ?_
     rintro ev w2 ⟨rfl, hb⟩
     have HB : Hid _ := hb
     clear hb
     rw [h3']
     go_wp2_with fail
     refine (HLn.out _ HB.out).mono ?_
     rintro ev wx ⟨rfl, hx⟩
     have hx' := hx.symm
     subst hx'
     go_wp2_with fail
     refine (HP.out _ HB.out).mono ?_
     rintro ev w3 ⟨rfl, v', hS, hF⟩
     have HS : Hid _ := hS
     have HG : Hid _ := FrS.pre HB.out hF
     clear hS hF
     go_wp2
     go_end0
     exact ⟨rfl, _, HS.out, HG.out⟩
    ·rw [if_neg (fun hh => h4 hh.2)]
     have h4' : ¬ (2 : Int) ≤ x.st.length := by omega
     generalize x.st.length = L at *
     go_enter Tryz.func206, Tryz.ntmps206
     go_wp2_with fail
     refine HT.out.mono ?_
     rintro ev w2 ⟨rfl, hb⟩
     have HB : Hid _ := hb
     clear hb
     rw [h3']
     go_wp2_with fail
     refine (HLn.out _ HB.out).mono ?_
     rintro ev wx ⟨rfl, hx⟩
     have hx' := hx.symm
     subst hx'
     go_wp2
     go_end0
     exact ⟨rfl, _, HH.out.below HB.out, FrS.pre HB.out (FrS.refl _ _ _)⟩
end Go.Proofs.YtkbinfhclaafhaaGreatDoor
namespace Go.Proofs.YtkbinfhclaafhaaGreatDoor
open Go.RowKit
set_option maxRecDepth 100000 in
set_option maxHeartbeats 4000000 in
theorem endW_flat (w : World) (B s : Nat) (v lp : Value) (x : XS) (h : WAt w B s v lp x) (hi : 0 ≤ x.isos ∧ x.isos ≤ 100000) (h0 : 0 < x.isos ∨ x.valid = 0) :
  Calls Tryz.prog 200 #[.pointer (some ⟨s, 0, none⟩)] w fun ev w' => ev = .returned (.tuple #[]) ∧ ∃ v', WAt w' B s v' lp (endX x) ∧ FrS w w' s v v' := by
 have c2 : w.cell? ⟨s, 2, none⟩ = some (.int .i64 x.isos) := heap_cell h.cell 2
 have c4 : w.cell? ⟨s, 4, none⟩ = some (.int .i64 x.valid) := heap_cell h.cell 4
 have f2 : w.frozen? ⟨s, 2, none⟩ = false := heap_free h.cell 2
 have HH : Hid (WAt w B s v lp x) := h
 unfold endX
 clear h
 by_cases h1 : 0 < x.isos
 ·rw [if_pos h1]
  clear h0
  go_enter Tryz.func200, Tryz.ntmps200
  go_wp2
  exact bodyPost_ret (results_none rfl _ _ _) rfl ⟨rfl, _, HH.out.setIsos _, FrS.set _ _ _ _ _⟩
 ·rw [if_neg h1]
  have h2 : x.valid = 0 := by omega
  rw [if_pos h2]
  rw [h2] at c4
  clear h0
  go_enter Tryz.func200, Tryz.ntmps200
  go_wp2
  exact bodyPost_ret (results_none rfl _ _ _) rfl ⟨rfl, _, HH.out, FrS.refl _ _ _⟩
set_option maxRecDepth 100000 in
set_option maxHeartbeats 8000000 in
theorem endW_deep (w : World) (B s : Nat) (v lp : Value) (x : XS) (h : WAt w B s v lp x) (hn : x.st.length ≤ 1000) (h0 : x.isos = 0) (hv : 1 ≤ x.valid ∧ x.valid ≤ 100000) (hex : ∃ e ∈ x.st, e.i = true) :
  Calls Tryz.prog 200 #[.pointer (some ⟨s, 0, none⟩)] w fun ev w' => ev = .returned (.tuple #[]) ∧ ∃ v', WAt w' B s v' lp { x with embs := 0, st := popIso x.st, valid := x.valid - 1 } ∧ FrS w w' s v v' := by
 obtain ⟨st, isos, embs, valid⟩ := x
 simp only at hn h0 hv hex ⊢
 subst h0
 have c2 : w.cell? ⟨s, 2, none⟩ = some (.int .i64 0) := heap_cell h.cell 2
 have c3 : w.cell? ⟨s, 3, none⟩ = some (.int .i64 embs) := heap_cell h.cell 3
 have f3 : w.frozen? ⟨s, 3, none⟩ = false := heap_free h.cell 3
 have c4 : w.cell? ⟨s, 4, none⟩ = some (.int .i64 valid) := heap_cell h.cell 4
 have f4 : w.frozen? ⟨s, 4, none⟩ = false := heap_free h.cell 4
 have hv' : (valid == 0) = false := by simp; omega
 have HS1 : Hid (WAt ((w.setCell ⟨s, 4, none⟩ (.int .i64 (valid - 1))).setCell ⟨s, 3, none⟩ (.int .i64 0)) B s v lp ⟨st, 0, 0, valid - 1⟩) := (h.setValid (valid - 1)).setEmbs 0
 have HF1 : Hid (FrS w ((w.setCell ⟨s, 4, none⟩ (.int .i64 (valid - 1))).setCell ⟨s, 3, none⟩ (.int .i64 0)) s v v) := (FrS.set _ _ _ _ _).trans (FrS.set _ _ _ _ _)
 have HX : Hid (∃ e ∈ st, e.i = true) := hex
 clear h hex
 go_enter Tryz.func200, Tryz.ntmps200
 go_wp2
 clear c2 c3 c4 f3 f4
 go_loopg [2, 3, 31, 32, 33, 34, 35, 36, 37, 38, 39, 40, 41, 42, 43] (st.length + 1) (fun gk _ _ _ _ _ _ _ _ _ _ _ _ _ _ _ wr => ∃ (v' : Value) (st' : List Ent), WAt wr B s v' lp ⟨st', 0, 0, valid - 1⟩ ∧ FrS w wr s v v' ∧ popIso st' = popIso st ∧ (∃ e ∈ st', e.i = true) ∧ st'.length < gk ∧ st'.length ≤ 1000)
 case atStart => exact ⟨v, st, HS1.out, HF1.out, rfl, HX.out, by omega, hn⟩
 case round =>
  obtain ⟨v', st', hS, hF, hp, hex, hg, hl⟩ := hrel
  clear HS1 HF1 HX
  have hne : st' ≠ [] := by rintro rfl; simp at hex
  obtain ⟨st0, e, rfl⟩ : ∃ st0 e, st' = st0 ++ [e] := ⟨st'.dropLast, st'.getLast hne, (List.dropLast_concat_getLast hne).symm⟩
  simp only [List.length_append, List.length_cons, List.length_nil] at hg hl
  have HT : Hid (∀ W, Below wr.heap.size wr W → Calls Tryz.prog 237 #[.pointer (some ⟨s, 1, none⟩)] W fun ev w' => ev = .returned (.tuple #[.agg #[.int .i64 e.l, .int .i64 e.o, .bool e.i], .bool true]) ∧ ∃ v2, WAt w' B s v2 lp ⟨st0, 0, 0, valid - 1⟩ ∧ FrS W w' s v' v2) := fun W hb => popE_some W B s v' lp ⟨st0 ++ [e], 0, 0, valid - 1⟩ st0 e (hS.below hb) rfl (by omega)
  have HF : Hid (FrS w wr s v v') := hF
  have HP : Hid (popIso (st0 ++ [e]) = popIso st) := hp
  have HX : Hid (∃ e' ∈ st0 ++ [e], e'.i = true) := hex
  have HS0 : Hid (s < wr.heap.size) := heap_lt hS.cell
  clear hS hF hp hex hne
  obtain ⟨el, eo, ei⟩ := e
  simp only at HT
  cases ei
  ·have HP' : Hid (popIso st0 = popIso st) := by have := HP.out; rw [popIso_not _ _ rfl] at this; exact this
   have HX' : Hid (∃ e' ∈ st0, e'.i = true) := by
    obtain ⟨e', hm, hi⟩ := HX.out
    rcases List.mem_append.1 hm with hm | hm
    ·exact ⟨e', hm, hi⟩
    ·rw [List.mem_singleton.1 hm] at hi; cases hi
   go_wp2_with fail
   refine (HT.out _ (Below.refl _ _)).mono ?_
   rintro ev w2 ⟨rfl, v2, hS2, hF2⟩
   have HS2 : Hid (WAt w2 B s v2 lp ⟨st0, 0, 0, valid - 1⟩) := hS2
   have HF2 : Hid (FrS w w2 s v v2) := HF.out.trans hF2
   clear hS2 hF2 HT
   go_wp2
   go_roundg (st0.length + 1)
   case measure => omega
   case rel => exact ⟨_, st0, HS2.out.below ((Below.refl _ _).alloc (Nat.le_refl _) _), HF2.out.post ((Below.refl _ _).alloc HF2.out.size _), HP'.out, HX'.out, by omega, by omega⟩
  ·have HP' : Hid (st0 = popIso st) := by have := HP.out; rw [popIso_iso _ _ rfl] at this; exact this
   go_wp2_with fail
   refine (HT.out _ (Below.refl _ _)).mono ?_
   rintro ev w2 ⟨rfl, v2, hS2, hF2⟩
   have HS2 : Hid (WAt w2 B s v2 lp ⟨popIso st, 0, 0, valid - 1⟩) := by have := hS2; rw [HP'.out] at this; exact this
   have HF2 : Hid (FrS w w2 s v v2) := HF.out.trans hF2
   clear hS2 hF2 HT
   go_wp2
   exact bodyPost_ret (results_none rfl _ _ _) rfl ⟨rfl, _, HS2.out.below ((Below.refl _ _).alloc (Nat.le_refl _) _), HF2.out.post ((Below.refl _ _).alloc HF2.out.size _)⟩
end Go.Proofs.YtkbinfhclaafhaaGreatDoor
namespace Go.Proofs.YtkbinfhclaafhaaGreatDoor
open Go.RowKit
def embX (x : XS) (odd o : Int) : XS :=
 if freeX x (nextL (topE x.st).l odd) = true then { x with st := x.st ++ [⟨nextL (topE x.st).l odd, o, false⟩] }
 else if x.isos = 0 then { x with embs := x.embs + 1 } else x
theorem embX_13 (x : XS) : embedX x 13 = embX x 0 (-1) := by simp [embedX, embX]
theorem embX_14 (x : XS) : embedX x 14 = embX x 1 (-1) := by simp [embedX, embX]
theorem embX_15 (x : XS) : embedX x 15 = embX x 0 0 := by simp [embedX, embX]
theorem embX_16 (x : XS) : embedX x 16 = embX x 1 1 := by simp [embedX, embX]
set_option maxRecDepth 100000 in
set_option maxHeartbeats 8000000 in
theorem embW_13 (w : World) (B s : Nat) (v lp : Value) (x : XS) (h : WAt w B s v lp x) (hne : x.st ≠ []) (hn : x.st.length ≤ 1000) (hl : 0 ≤ (topE x.st).l) (hl' : (topE x.st).l ≤ 1000) (he : 0 ≤ x.embs ∧ x.embs ≤ 100000) :
  Calls Tryz.prog 203 #[.pointer (some ⟨s, 0, none⟩), .int .i64 13] w fun ev w' => ev = .returned (.tuple #[]) ∧ ∃ v', WAt w' B s v' lp (embX x 0 (-1)) ∧ FrS w w' s v v' := by
 have HN : Hid (∀ W, Below w.heap.size w W → Calls Tryz.prog 239 #[.pointer (some ⟨s, 0, none⟩), .int .i64 0] W fun ev w' => ev = .returned (.int .i64 (nextL (topE x.st).l 0)) ∧ Below W.heap.size W w') := fun W hb => nextW_any W B s v lp x 0 (h.below hb) hne (by omega) hl hl'
 have HW : Hid (∀ W, Below w.heap.size w W → WAt W B s v lp x) := fun W hb => h.below hb
 have HL : Hid (x.st.length ≤ 1000) := hn
 have HZ : Hid (s < w.heap.size) := heap_lt h.cell
 unfold embX
 generalize nextL (topE x.st).l 0 = n at *
 clear h hne hn hl hl'
 obtain ⟨st, isos, embs, valid⟩ := x
 simp only at HN HW HL he ⊢
 have hb0 : Below w.heap.size w (w.alloc (.cells #[.int .i64 0, .int .i64 0, .bool false] 215)) := (Below.refl _ _).alloc (Nat.le_refl _) _
 by_cases hf : freeX ⟨st, isos, embs, valid⟩ n = true
 ·rw [if_pos hf]
  have HF : Hid (freeX ⟨st, isos, embs, valid⟩ n = true) := hf
  clear hf
  go_enter Tryz.func203, Tryz.ntmps203
  go_wp2_with fail
  refine (HN.out _ hb0).mono ?_
  rintro ev w2 ⟨rfl, hb⟩
  have hB2 : Below w.heap.size w w2 := hb0.trans (hb.mono (by simp))
  have j0 : w2.cell? ⟨w.heap.size, 0, none⟩ = some (.int .i64 0) := by rw [hb.cell (p := ⟨w.heap.size, 0, none⟩) (by simp)]; go_simp
  have j1 : w2.cell? ⟨w.heap.size, 1, none⟩ = some (.int .i64 0) := by rw [hb.cell (p := ⟨w.heap.size, 1, none⟩) (by simp)]; go_simp
  have j2 : w2.cell? ⟨w.heap.size, 2, none⟩ = some (.bool false) := by rw [hb.cell (p := ⟨w.heap.size, 2, none⟩) (by simp)]; go_simp
  have g0 : w2.frozen? ⟨w.heap.size, 0, none⟩ = false := by rw [hb.frozen (p := ⟨w.heap.size, 0, none⟩) (by simp)]; go_simp
  have g1 : w2.frozen? ⟨w.heap.size, 1, none⟩ = false := by rw [hb.frozen (p := ⟨w.heap.size, 1, none⟩) (by simp)]; go_simp
  have g2 : w2.frozen? ⟨w.heap.size, 2, none⟩ = false := by rw [hb.frozen (p := ⟨w.heap.size, 2, none⟩) (by simp)]; go_simp
  have HB3 : Hid (Below w.heap.size w (((w2.setCell ⟨w.heap.size, 0, none⟩ (.int .i64 n)).setCell ⟨w.heap.size, 1, none⟩ (.int .i64 (-1))).setCell ⟨w.heap.size, 2, none⟩ (.bool false))) := ((hB2.setCell (Nat.le_refl _) _).setCell (Nat.le_refl _) _).setCell (Nat.le_refl _) _
  clear hb hB2
  go_wp2_with fail
  refine (fitsW_any _ B s v lp _ n (HW.out _ HB3.out)).mono ?_
  rintro ev wx ⟨rfl, hx⟩
  subst hx
  rw [HF.out]
  go_wp2_with fail
  go_region_with (go_at_call 142; refine (pushE_any _ B s v lp _ n (-1) false (HW.out _ HB3.out.drew) (by have := HL.out; simp only; omega)).mono ?_; rintro ev w3 ⟨rfl, v', hS, hF⟩)
  all_goals
   have HS : Hid _ := hS
   have HG : Hid _ := FrS.pre HB3.out.drew hF
   clear hS hF
   go_wp2
   go_end0
   exact ⟨rfl, _, HS.out, HG.out⟩
 ·rw [if_neg hf]
  have hf' : freeX ⟨st, isos, embs, valid⟩ n = false := by simpa using hf
  have HF : Hid (freeX ⟨st, isos, embs, valid⟩ n = false) := hf'
  clear hf hf'
  by_cases hi : isos = 0
  ·rw [if_pos hi]
   subst hi
   go_enter Tryz.func203, Tryz.ntmps203
   go_wp2_with fail
   refine (HN.out _ hb0).mono ?_
   rintro ev w2 ⟨rfl, hb⟩
   have hB2 : Below w.heap.size w w2 := hb0.trans (hb.mono (by simp))
   have j0 : w2.cell? ⟨w.heap.size, 0, none⟩ = some (.int .i64 0) := by rw [hb.cell (p := ⟨w.heap.size, 0, none⟩) (by simp)]; go_simp
   have j1 : w2.cell? ⟨w.heap.size, 1, none⟩ = some (.int .i64 0) := by rw [hb.cell (p := ⟨w.heap.size, 1, none⟩) (by simp)]; go_simp
   have j2 : w2.cell? ⟨w.heap.size, 2, none⟩ = some (.bool false) := by rw [hb.cell (p := ⟨w.heap.size, 2, none⟩) (by simp)]; go_simp
   have g0 : w2.frozen? ⟨w.heap.size, 0, none⟩ = false := by rw [hb.frozen (p := ⟨w.heap.size, 0, none⟩) (by simp)]; go_simp
   have g1 : w2.frozen? ⟨w.heap.size, 1, none⟩ = false := by rw [hb.frozen (p := ⟨w.heap.size, 1, none⟩) (by simp)]; go_simp
   have g2 : w2.frozen? ⟨w.heap.size, 2, none⟩ = false := by rw [hb.frozen (p := ⟨w.heap.size, 2, none⟩) (by simp)]; go_simp
   have HB3 : Hid (Below w.heap.size w (((w2.setCell ⟨w.heap.size, 0, none⟩ (.int .i64 n)).setCell ⟨w.heap.size, 1, none⟩ (.int .i64 (-1))).setCell ⟨w.heap.size, 2, none⟩ (.bool false))) := ((hB2.setCell (Nat.le_refl _) _).setCell (Nat.le_refl _) _).setCell (Nat.le_refl _) _
   clear hb hB2
   go_wp2_with fail
   refine (fitsW_any _ B s v lp _ n (HW.out _ HB3.out)).mono ?_
   rintro ev wx ⟨rfl, hx⟩
   subst hx
   rw [HF.out]
   clear j0 j1 j2 g0 g1 g2
   generalize ((w2.setCell ⟨w.heap.size, 0, none⟩ (.int .i64 n)).setCell ⟨w.heap.size, 1, none⟩ (.int .i64 (-1))).setCell ⟨w.heap.size, 2, none⟩ (.bool false) = W3 at *
   have c2 : W3.cell? ⟨s, 2, none⟩ = some (.int .i64 0) := heap_cell (HW.out _ HB3.out).cell 2
   have c3 : W3.cell? ⟨s, 3, none⟩ = some (.int .i64 embs) := heap_cell (HW.out _ HB3.out).cell 3
   have f3 : W3.frozen? ⟨s, 3, none⟩ = false := heap_free (HW.out _ HB3.out).cell 3
   go_wp2
   go_end0
   exact ⟨rfl, _, (HW.out _ HB3.out).setEmbs _, FrS.pre HB3.out (FrS.set _ s v 3 _)⟩
  ·rw [if_neg hi]
   have hi' : (isos == 0) = false := by simpa using hi
   go_enter Tryz.func203, Tryz.ntmps203
   go_wp2_with fail
   refine (HN.out _ hb0).mono ?_
   rintro ev w2 ⟨rfl, hb⟩
   have hB2 : Below w.heap.size w w2 := hb0.trans (hb.mono (by simp))
   have j0 : w2.cell? ⟨w.heap.size, 0, none⟩ = some (.int .i64 0) := by rw [hb.cell (p := ⟨w.heap.size, 0, none⟩) (by simp)]; go_simp
   have j1 : w2.cell? ⟨w.heap.size, 1, none⟩ = some (.int .i64 0) := by rw [hb.cell (p := ⟨w.heap.size, 1, none⟩) (by simp)]; go_simp
   have j2 : w2.cell? ⟨w.heap.size, 2, none⟩ = some (.bool false) := by rw [hb.cell (p := ⟨w.heap.size, 2, none⟩) (by simp)]; go_simp
   have g0 : w2.frozen? ⟨w.heap.size, 0, none⟩ = false := by rw [hb.frozen (p := ⟨w.heap.size, 0, none⟩) (by simp)]; go_simp
   have g1 : w2.frozen? ⟨w.heap.size, 1, none⟩ = false := by rw [hb.frozen (p := ⟨w.heap.size, 1, none⟩) (by simp)]; go_simp
   have g2 : w2.frozen? ⟨w.heap.size, 2, none⟩ = false := by rw [hb.frozen (p := ⟨w.heap.size, 2, none⟩) (by simp)]; go_simp
   have HB3 : Hid (Below w.heap.size w (((w2.setCell ⟨w.heap.size, 0, none⟩ (.int .i64 n)).setCell ⟨w.heap.size, 1, none⟩ (.int .i64 (-1))).setCell ⟨w.heap.size, 2, none⟩ (.bool false))) := ((hB2.setCell (Nat.le_refl _) _).setCell (Nat.le_refl _) _).setCell (Nat.le_refl _) _
   clear hb hB2
   go_wp2_with fail
   refine (fitsW_any _ B s v lp _ n (HW.out _ HB3.out)).mono ?_
   rintro ev wx ⟨rfl, hx⟩
   subst hx
   rw [HF.out]
   clear j0 j1 j2 g0 g1 g2
   generalize ((w2.setCell ⟨w.heap.size, 0, none⟩ (.int .i64 n)).setCell ⟨w.heap.size, 1, none⟩ (.int .i64 (-1))).setCell ⟨w.heap.size, 2, none⟩ (.bool false) = W3 at *
   have c2 : W3.cell? ⟨s, 2, none⟩ = some (.int .i64 isos) := heap_cell (HW.out _ HB3.out).cell 2
   go_wp2
   go_end0
   exact ⟨rfl, _, HW.out _ HB3.out, FrS.pre HB3.out (FrS.refl _ s v)⟩
set_option maxRecDepth 100000 in
set_option maxHeartbeats 8000000 in
theorem embW_14 (w : World) (B s : Nat) (v lp : Value) (x : XS) (h : WAt w B s v lp x) (hne : x.st ≠ []) (hn : x.st.length ≤ 1000) (hl : 0 ≤ (topE x.st).l) (hl' : (topE x.st).l ≤ 1000) (he : 0 ≤ x.embs ∧ x.embs ≤ 100000) :
  Calls Tryz.prog 203 #[.pointer (some ⟨s, 0, none⟩), .int .i64 14] w fun ev w' => ev = .returned (.tuple #[]) ∧ ∃ v', WAt w' B s v' lp (embX x 1 (-1)) ∧ FrS w w' s v v' := by
 have HN : Hid (∀ W, Below w.heap.size w W → Calls Tryz.prog 239 #[.pointer (some ⟨s, 0, none⟩), .int .i64 1] W fun ev w' => ev = .returned (.int .i64 (nextL (topE x.st).l 1)) ∧ Below W.heap.size W w') := fun W hb => nextW_any W B s v lp x 1 (h.below hb) hne (by omega) hl hl'
 have HW : Hid (∀ W, Below w.heap.size w W → WAt W B s v lp x) := fun W hb => h.below hb
 have HL : Hid (x.st.length ≤ 1000) := hn
 have HZ : Hid (s < w.heap.size) := heap_lt h.cell
 unfold embX
 generalize nextL (topE x.st).l 1 = n at *
 clear h hne hn hl hl'
 obtain ⟨st, isos, embs, valid⟩ := x
 simp only at HN HW HL he ⊢
 have hb0 : Below w.heap.size w (w.alloc (.cells #[.int .i64 0, .int .i64 0, .bool false] 215)) := (Below.refl _ _).alloc (Nat.le_refl _) _
 by_cases hf : freeX ⟨st, isos, embs, valid⟩ n = true
 ·rw [if_pos hf]
  have HF : Hid (freeX ⟨st, isos, embs, valid⟩ n = true) := hf
  clear hf
  go_enter Tryz.func203, Tryz.ntmps203
  go_wp2_with fail
  refine (HN.out _ hb0).mono ?_
  rintro ev w2 ⟨rfl, hb⟩
  have hB2 : Below w.heap.size w w2 := hb0.trans (hb.mono (by simp))
  have j0 : w2.cell? ⟨w.heap.size, 0, none⟩ = some (.int .i64 0) := by rw [hb.cell (p := ⟨w.heap.size, 0, none⟩) (by simp)]; go_simp
  have j1 : w2.cell? ⟨w.heap.size, 1, none⟩ = some (.int .i64 0) := by rw [hb.cell (p := ⟨w.heap.size, 1, none⟩) (by simp)]; go_simp
  have j2 : w2.cell? ⟨w.heap.size, 2, none⟩ = some (.bool false) := by rw [hb.cell (p := ⟨w.heap.size, 2, none⟩) (by simp)]; go_simp
  have g0 : w2.frozen? ⟨w.heap.size, 0, none⟩ = false := by rw [hb.frozen (p := ⟨w.heap.size, 0, none⟩) (by simp)]; go_simp
  have g1 : w2.frozen? ⟨w.heap.size, 1, none⟩ = false := by rw [hb.frozen (p := ⟨w.heap.size, 1, none⟩) (by simp)]; go_simp
  have g2 : w2.frozen? ⟨w.heap.size, 2, none⟩ = false := by rw [hb.frozen (p := ⟨w.heap.size, 2, none⟩) (by simp)]; go_simp
  have HB3 : Hid (Below w.heap.size w (((w2.setCell ⟨w.heap.size, 0, none⟩ (.int .i64 n)).setCell ⟨w.heap.size, 1, none⟩ (.int .i64 (-1))).setCell ⟨w.heap.size, 2, none⟩ (.bool false))) := ((hB2.setCell (Nat.le_refl _) _).setCell (Nat.le_refl _) _).setCell (Nat.le_refl _) _
  clear hb hB2
  go_wp2_with fail
  refine (fitsW_any _ B s v lp _ n (HW.out _ HB3.out)).mono ?_
  rintro ev wx ⟨rfl, hx⟩
  subst hx
  rw [HF.out]
  go_wp2_with fail
  go_region_with (go_at_call 142; refine (pushE_any _ B s v lp _ n (-1) false (HW.out _ HB3.out.drew) (by have := HL.out; simp only; omega)).mono ?_; rintro ev w3 ⟨rfl, v', hS, hF⟩)
  all_goals
   have HS : Hid _ := hS
   have HG : Hid _ := FrS.pre HB3.out.drew hF
   clear hS hF
   go_wp2
   go_end0
   exact ⟨rfl, _, HS.out, HG.out⟩
 ·rw [if_neg hf]
  have hf' : freeX ⟨st, isos, embs, valid⟩ n = false := by simpa using hf
  have HF : Hid (freeX ⟨st, isos, embs, valid⟩ n = false) := hf'
  clear hf hf'
  by_cases hi : isos = 0
  ·rw [if_pos hi]
   subst hi
   go_enter Tryz.func203, Tryz.ntmps203
   go_wp2_with fail
   refine (HN.out _ hb0).mono ?_
   rintro ev w2 ⟨rfl, hb⟩
   have hB2 : Below w.heap.size w w2 := hb0.trans (hb.mono (by simp))
   have j0 : w2.cell? ⟨w.heap.size, 0, none⟩ = some (.int .i64 0) := by rw [hb.cell (p := ⟨w.heap.size, 0, none⟩) (by simp)]; go_simp
   have j1 : w2.cell? ⟨w.heap.size, 1, none⟩ = some (.int .i64 0) := by rw [hb.cell (p := ⟨w.heap.size, 1, none⟩) (by simp)]; go_simp
   have j2 : w2.cell? ⟨w.heap.size, 2, none⟩ = some (.bool false) := by rw [hb.cell (p := ⟨w.heap.size, 2, none⟩) (by simp)]; go_simp
   have g0 : w2.frozen? ⟨w.heap.size, 0, none⟩ = false := by rw [hb.frozen (p := ⟨w.heap.size, 0, none⟩) (by simp)]; go_simp
   have g1 : w2.frozen? ⟨w.heap.size, 1, none⟩ = false := by rw [hb.frozen (p := ⟨w.heap.size, 1, none⟩) (by simp)]; go_simp
   have g2 : w2.frozen? ⟨w.heap.size, 2, none⟩ = false := by rw [hb.frozen (p := ⟨w.heap.size, 2, none⟩) (by simp)]; go_simp
   have HB3 : Hid (Below w.heap.size w (((w2.setCell ⟨w.heap.size, 0, none⟩ (.int .i64 n)).setCell ⟨w.heap.size, 1, none⟩ (.int .i64 (-1))).setCell ⟨w.heap.size, 2, none⟩ (.bool false))) := ((hB2.setCell (Nat.le_refl _) _).setCell (Nat.le_refl _) _).setCell (Nat.le_refl _) _
   clear hb hB2
   go_wp2_with fail
   refine (fitsW_any _ B s v lp _ n (HW.out _ HB3.out)).mono ?_
   rintro ev wx ⟨rfl, hx⟩
   subst hx
   rw [HF.out]
   clear j0 j1 j2 g0 g1 g2
   generalize ((w2.setCell ⟨w.heap.size, 0, none⟩ (.int .i64 n)).setCell ⟨w.heap.size, 1, none⟩ (.int .i64 (-1))).setCell ⟨w.heap.size, 2, none⟩ (.bool false) = W3 at *
   have c2 : W3.cell? ⟨s, 2, none⟩ = some (.int .i64 0) := heap_cell (HW.out _ HB3.out).cell 2
   have c3 : W3.cell? ⟨s, 3, none⟩ = some (.int .i64 embs) := heap_cell (HW.out _ HB3.out).cell 3
   have f3 : W3.frozen? ⟨s, 3, none⟩ = false := heap_free (HW.out _ HB3.out).cell 3
   go_wp2
   go_end0
   exact ⟨rfl, _, (HW.out _ HB3.out).setEmbs _, FrS.pre HB3.out (FrS.set _ s v 3 _)⟩
  ·rw [if_neg hi]
   have hi' : (isos == 0) = false := by simpa using hi
   go_enter Tryz.func203, Tryz.ntmps203
   go_wp2_with fail
   refine (HN.out _ hb0).mono ?_
   rintro ev w2 ⟨rfl, hb⟩
   have hB2 : Below w.heap.size w w2 := hb0.trans (hb.mono (by simp))
   have j0 : w2.cell? ⟨w.heap.size, 0, none⟩ = some (.int .i64 0) := by rw [hb.cell (p := ⟨w.heap.size, 0, none⟩) (by simp)]; go_simp
   have j1 : w2.cell? ⟨w.heap.size, 1, none⟩ = some (.int .i64 0) := by rw [hb.cell (p := ⟨w.heap.size, 1, none⟩) (by simp)]; go_simp
   have j2 : w2.cell? ⟨w.heap.size, 2, none⟩ = some (.bool false) := by rw [hb.cell (p := ⟨w.heap.size, 2, none⟩) (by simp)]; go_simp
   have g0 : w2.frozen? ⟨w.heap.size, 0, none⟩ = false := by rw [hb.frozen (p := ⟨w.heap.size, 0, none⟩) (by simp)]; go_simp
   have g1 : w2.frozen? ⟨w.heap.size, 1, none⟩ = false := by rw [hb.frozen (p := ⟨w.heap.size, 1, none⟩) (by simp)]; go_simp
   have g2 : w2.frozen? ⟨w.heap.size, 2, none⟩ = false := by rw [hb.frozen (p := ⟨w.heap.size, 2, none⟩) (by simp)]; go_simp
   have HB3 : Hid (Below w.heap.size w (((w2.setCell ⟨w.heap.size, 0, none⟩ (.int .i64 n)).setCell ⟨w.heap.size, 1, none⟩ (.int .i64 (-1))).setCell ⟨w.heap.size, 2, none⟩ (.bool false))) := ((hB2.setCell (Nat.le_refl _) _).setCell (Nat.le_refl _) _).setCell (Nat.le_refl _) _
   clear hb hB2
   go_wp2_with fail
   refine (fitsW_any _ B s v lp _ n (HW.out _ HB3.out)).mono ?_
   rintro ev wx ⟨rfl, hx⟩
   subst hx
   rw [HF.out]
   clear j0 j1 j2 g0 g1 g2
   generalize ((w2.setCell ⟨w.heap.size, 0, none⟩ (.int .i64 n)).setCell ⟨w.heap.size, 1, none⟩ (.int .i64 (-1))).setCell ⟨w.heap.size, 2, none⟩ (.bool false) = W3 at *
   have c2 : W3.cell? ⟨s, 2, none⟩ = some (.int .i64 isos) := heap_cell (HW.out _ HB3.out).cell 2
   go_wp2
   go_end0
   exact ⟨rfl, _, HW.out _ HB3.out, FrS.pre HB3.out (FrS.refl _ s v)⟩
set_option maxRecDepth 100000 in
set_option maxHeartbeats 8000000 in
theorem embW_15 (w : World) (B s : Nat) (v lp : Value) (x : XS) (h : WAt w B s v lp x) (hne : x.st ≠ []) (hn : x.st.length ≤ 1000) (hl : 0 ≤ (topE x.st).l) (hl' : (topE x.st).l ≤ 1000) (he : 0 ≤ x.embs ∧ x.embs ≤ 100000) :
  Calls Tryz.prog 203 #[.pointer (some ⟨s, 0, none⟩), .int .i64 15] w fun ev w' => ev = .returned (.tuple #[]) ∧ ∃ v', WAt w' B s v' lp (embX x 0 0) ∧ FrS w w' s v v' := by
 have HN : Hid (∀ W, Below w.heap.size w W → Calls Tryz.prog 239 #[.pointer (some ⟨s, 0, none⟩), .int .i64 0] W fun ev w' => ev = .returned (.int .i64 (nextL (topE x.st).l 0)) ∧ Below W.heap.size W w') := fun W hb => nextW_any W B s v lp x 0 (h.below hb) hne (by omega) hl hl'
 have HW : Hid (∀ W, Below w.heap.size w W → WAt W B s v lp x) := fun W hb => h.below hb
 have HL : Hid (x.st.length ≤ 1000) := hn
 have HZ : Hid (s < w.heap.size) := heap_lt h.cell
 unfold embX
 generalize nextL (topE x.st).l 0 = n at *
 clear h hne hn hl hl'
 obtain ⟨st, isos, embs, valid⟩ := x
 simp only at HN HW HL he ⊢
 have hb0 : Below w.heap.size w (w.alloc (.cells #[.int .i64 0, .int .i64 0, .bool false] 215)) := (Below.refl _ _).alloc (Nat.le_refl _) _
 by_cases hf : freeX ⟨st, isos, embs, valid⟩ n = true
 ·rw [if_pos hf]
  have HF : Hid (freeX ⟨st, isos, embs, valid⟩ n = true) := hf
  clear hf
  go_enter Tryz.func203, Tryz.ntmps203
  go_wp2_with fail
  refine (HN.out _ hb0).mono ?_
  rintro ev w2 ⟨rfl, hb⟩
  have hB2 : Below w.heap.size w w2 := hb0.trans (hb.mono (by simp))
  have j0 : w2.cell? ⟨w.heap.size, 0, none⟩ = some (.int .i64 0) := by rw [hb.cell (p := ⟨w.heap.size, 0, none⟩) (by simp)]; go_simp
  have j1 : w2.cell? ⟨w.heap.size, 1, none⟩ = some (.int .i64 0) := by rw [hb.cell (p := ⟨w.heap.size, 1, none⟩) (by simp)]; go_simp
  have j2 : w2.cell? ⟨w.heap.size, 2, none⟩ = some (.bool false) := by rw [hb.cell (p := ⟨w.heap.size, 2, none⟩) (by simp)]; go_simp
  have g0 : w2.frozen? ⟨w.heap.size, 0, none⟩ = false := by rw [hb.frozen (p := ⟨w.heap.size, 0, none⟩) (by simp)]; go_simp
  have g1 : w2.frozen? ⟨w.heap.size, 1, none⟩ = false := by rw [hb.frozen (p := ⟨w.heap.size, 1, none⟩) (by simp)]; go_simp
  have g2 : w2.frozen? ⟨w.heap.size, 2, none⟩ = false := by rw [hb.frozen (p := ⟨w.heap.size, 2, none⟩) (by simp)]; go_simp
  have HB3 : Hid (Below w.heap.size w (((w2.setCell ⟨w.heap.size, 0, none⟩ (.int .i64 n)).setCell ⟨w.heap.size, 1, none⟩ (.int .i64 0)).setCell ⟨w.heap.size, 2, none⟩ (.bool false))) := ((hB2.setCell (Nat.le_refl _) _).setCell (Nat.le_refl _) _).setCell (Nat.le_refl _) _
  clear hb hB2
  go_wp2_with fail
  refine (fitsW_any _ B s v lp _ n (HW.out _ HB3.out)).mono ?_
  rintro ev wx ⟨rfl, hx⟩
  subst hx
  rw [HF.out]
  go_wp2_with fail
  go_region_with (go_at_call 142; refine (pushE_any _ B s v lp _ n 0 false (HW.out _ HB3.out.drew) (by have := HL.out; simp only; omega)).mono ?_; rintro ev w3 ⟨rfl, v', hS, hF⟩)
  all_goals
   have HS : Hid _ := hS
   have HG : Hid _ := FrS.pre HB3.out.drew hF
   clear hS hF
   go_wp2
   go_end0
   exact ⟨rfl, _, HS.out, HG.out⟩
 ·rw [if_neg hf]
  have hf' : freeX ⟨st, isos, embs, valid⟩ n = false := by simpa using hf
  have HF : Hid (freeX ⟨st, isos, embs, valid⟩ n = false) := hf'
  clear hf hf'
  by_cases hi : isos = 0
  ·rw [if_pos hi]
   subst hi
   go_enter Tryz.func203, Tryz.ntmps203
   go_wp2_with fail
   refine (HN.out _ hb0).mono ?_
   rintro ev w2 ⟨rfl, hb⟩
   have hB2 : Below w.heap.size w w2 := hb0.trans (hb.mono (by simp))
   have j0 : w2.cell? ⟨w.heap.size, 0, none⟩ = some (.int .i64 0) := by rw [hb.cell (p := ⟨w.heap.size, 0, none⟩) (by simp)]; go_simp
   have j1 : w2.cell? ⟨w.heap.size, 1, none⟩ = some (.int .i64 0) := by rw [hb.cell (p := ⟨w.heap.size, 1, none⟩) (by simp)]; go_simp
   have j2 : w2.cell? ⟨w.heap.size, 2, none⟩ = some (.bool false) := by rw [hb.cell (p := ⟨w.heap.size, 2, none⟩) (by simp)]; go_simp
   have g0 : w2.frozen? ⟨w.heap.size, 0, none⟩ = false := by rw [hb.frozen (p := ⟨w.heap.size, 0, none⟩) (by simp)]; go_simp
   have g1 : w2.frozen? ⟨w.heap.size, 1, none⟩ = false := by rw [hb.frozen (p := ⟨w.heap.size, 1, none⟩) (by simp)]; go_simp
   have g2 : w2.frozen? ⟨w.heap.size, 2, none⟩ = false := by rw [hb.frozen (p := ⟨w.heap.size, 2, none⟩) (by simp)]; go_simp
   have HB3 : Hid (Below w.heap.size w (((w2.setCell ⟨w.heap.size, 0, none⟩ (.int .i64 n)).setCell ⟨w.heap.size, 1, none⟩ (.int .i64 0)).setCell ⟨w.heap.size, 2, none⟩ (.bool false))) := ((hB2.setCell (Nat.le_refl _) _).setCell (Nat.le_refl _) _).setCell (Nat.le_refl _) _
   clear hb hB2
   go_wp2_with fail
   refine (fitsW_any _ B s v lp _ n (HW.out _ HB3.out)).mono ?_
   rintro ev wx ⟨rfl, hx⟩
   subst hx
   rw [HF.out]
   clear j0 j1 j2 g0 g1 g2
   generalize ((w2.setCell ⟨w.heap.size, 0, none⟩ (.int .i64 n)).setCell ⟨w.heap.size, 1, none⟩ (.int .i64 0)).setCell ⟨w.heap.size, 2, none⟩ (.bool false) = W3 at *
   have c2 : W3.cell? ⟨s, 2, none⟩ = some (.int .i64 0) := heap_cell (HW.out _ HB3.out).cell 2
   have c3 : W3.cell? ⟨s, 3, none⟩ = some (.int .i64 embs) := heap_cell (HW.out _ HB3.out).cell 3
   have f3 : W3.frozen? ⟨s, 3, none⟩ = false := heap_free (HW.out _ HB3.out).cell 3
   go_wp2
   go_end0
   exact ⟨rfl, _, (HW.out _ HB3.out).setEmbs _, FrS.pre HB3.out (FrS.set _ s v 3 _)⟩
  ·rw [if_neg hi]
   have hi' : (isos == 0) = false := by simpa using hi
   go_enter Tryz.func203, Tryz.ntmps203
   go_wp2_with fail
   refine (HN.out _ hb0).mono ?_
   rintro ev w2 ⟨rfl, hb⟩
   have hB2 : Below w.heap.size w w2 := hb0.trans (hb.mono (by simp))
   have j0 : w2.cell? ⟨w.heap.size, 0, none⟩ = some (.int .i64 0) := by rw [hb.cell (p := ⟨w.heap.size, 0, none⟩) (by simp)]; go_simp
   have j1 : w2.cell? ⟨w.heap.size, 1, none⟩ = some (.int .i64 0) := by rw [hb.cell (p := ⟨w.heap.size, 1, none⟩) (by simp)]; go_simp
   have j2 : w2.cell? ⟨w.heap.size, 2, none⟩ = some (.bool false) := by rw [hb.cell (p := ⟨w.heap.size, 2, none⟩) (by simp)]; go_simp
   have g0 : w2.frozen? ⟨w.heap.size, 0, none⟩ = false := by rw [hb.frozen (p := ⟨w.heap.size, 0, none⟩) (by simp)]; go_simp
   have g1 : w2.frozen? ⟨w.heap.size, 1, none⟩ = false := by rw [hb.frozen (p := ⟨w.heap.size, 1, none⟩) (by simp)]; go_simp
   have g2 : w2.frozen? ⟨w.heap.size, 2, none⟩ = false := by rw [hb.frozen (p := ⟨w.heap.size, 2, none⟩) (by simp)]; go_simp
   have HB3 : Hid (Below w.heap.size w (((w2.setCell ⟨w.heap.size, 0, none⟩ (.int .i64 n)).setCell ⟨w.heap.size, 1, none⟩ (.int .i64 0)).setCell ⟨w.heap.size, 2, none⟩ (.bool false))) := ((hB2.setCell (Nat.le_refl _) _).setCell (Nat.le_refl _) _).setCell (Nat.le_refl _) _
   clear hb hB2
   go_wp2_with fail
   refine (fitsW_any _ B s v lp _ n (HW.out _ HB3.out)).mono ?_
   rintro ev wx ⟨rfl, hx⟩
   subst hx
   rw [HF.out]
   clear j0 j1 j2 g0 g1 g2
   generalize ((w2.setCell ⟨w.heap.size, 0, none⟩ (.int .i64 n)).setCell ⟨w.heap.size, 1, none⟩ (.int .i64 0)).setCell ⟨w.heap.size, 2, none⟩ (.bool false) = W3 at *
   have c2 : W3.cell? ⟨s, 2, none⟩ = some (.int .i64 isos) := heap_cell (HW.out _ HB3.out).cell 2
   go_wp2
   go_end0
   exact ⟨rfl, _, HW.out _ HB3.out, FrS.pre HB3.out (FrS.refl _ s v)⟩
set_option maxRecDepth 100000 in
set_option maxHeartbeats 8000000 in
theorem embW_16 (w : World) (B s : Nat) (v lp : Value) (x : XS) (h : WAt w B s v lp x) (hne : x.st ≠ []) (hn : x.st.length ≤ 1000) (hl : 0 ≤ (topE x.st).l) (hl' : (topE x.st).l ≤ 1000) (he : 0 ≤ x.embs ∧ x.embs ≤ 100000) :
  Calls Tryz.prog 203 #[.pointer (some ⟨s, 0, none⟩), .int .i64 16] w fun ev w' => ev = .returned (.tuple #[]) ∧ ∃ v', WAt w' B s v' lp (embX x 1 1) ∧ FrS w w' s v v' := by
 have HN : Hid (∀ W, Below w.heap.size w W → Calls Tryz.prog 239 #[.pointer (some ⟨s, 0, none⟩), .int .i64 1] W fun ev w' => ev = .returned (.int .i64 (nextL (topE x.st).l 1)) ∧ Below W.heap.size W w') := fun W hb => nextW_any W B s v lp x 1 (h.below hb) hne (by omega) hl hl'
 have HW : Hid (∀ W, Below w.heap.size w W → WAt W B s v lp x) := fun W hb => h.below hb
 have HL : Hid (x.st.length ≤ 1000) := hn
 have HZ : Hid (s < w.heap.size) := heap_lt h.cell
 unfold embX
 generalize nextL (topE x.st).l 1 = n at *
 clear h hne hn hl hl'
 obtain ⟨st, isos, embs, valid⟩ := x
 simp only at HN HW HL he ⊢
 have hb0 : Below w.heap.size w (w.alloc (.cells #[.int .i64 0, .int .i64 0, .bool false] 215)) := (Below.refl _ _).alloc (Nat.le_refl _) _
 by_cases hf : freeX ⟨st, isos, embs, valid⟩ n = true
 ·rw [if_pos hf]
  have HF : Hid (freeX ⟨st, isos, embs, valid⟩ n = true) := hf
  clear hf
  go_enter Tryz.func203, Tryz.ntmps203
  go_wp2_with fail
  refine (HN.out _ hb0).mono ?_
  rintro ev w2 ⟨rfl, hb⟩
  have hB2 : Below w.heap.size w w2 := hb0.trans (hb.mono (by simp))
  have j0 : w2.cell? ⟨w.heap.size, 0, none⟩ = some (.int .i64 0) := by rw [hb.cell (p := ⟨w.heap.size, 0, none⟩) (by simp)]; go_simp
  have j1 : w2.cell? ⟨w.heap.size, 1, none⟩ = some (.int .i64 0) := by rw [hb.cell (p := ⟨w.heap.size, 1, none⟩) (by simp)]; go_simp
  have j2 : w2.cell? ⟨w.heap.size, 2, none⟩ = some (.bool false) := by rw [hb.cell (p := ⟨w.heap.size, 2, none⟩) (by simp)]; go_simp
  have g0 : w2.frozen? ⟨w.heap.size, 0, none⟩ = false := by rw [hb.frozen (p := ⟨w.heap.size, 0, none⟩) (by simp)]; go_simp
  have g1 : w2.frozen? ⟨w.heap.size, 1, none⟩ = false := by rw [hb.frozen (p := ⟨w.heap.size, 1, none⟩) (by simp)]; go_simp
  have g2 : w2.frozen? ⟨w.heap.size, 2, none⟩ = false := by rw [hb.frozen (p := ⟨w.heap.size, 2, none⟩) (by simp)]; go_simp
  have HB3 : Hid (Below w.heap.size w (((w2.setCell ⟨w.heap.size, 0, none⟩ (.int .i64 n)).setCell ⟨w.heap.size, 1, none⟩ (.int .i64 1)).setCell ⟨w.heap.size, 2, none⟩ (.bool false))) := ((hB2.setCell (Nat.le_refl _) _).setCell (Nat.le_refl _) _).setCell (Nat.le_refl _) _
  clear hb hB2
  go_wp2_with fail
  refine (fitsW_any _ B s v lp _ n (HW.out _ HB3.out)).mono ?_
  rintro ev wx ⟨rfl, hx⟩
  subst hx
  rw [HF.out]
  go_wp2_with fail
  go_region_with (go_at_call 142; refine (pushE_any _ B s v lp _ n 1 false (HW.out _ HB3.out.drew) (by have := HL.out; simp only; omega)).mono ?_; rintro ev w3 ⟨rfl, v', hS, hF⟩)
  all_goals
   have HS : Hid _ := hS
   have HG : Hid _ := FrS.pre HB3.out.drew hF
   clear hS hF
   go_wp2
   go_end0
   exact ⟨rfl, _, HS.out, HG.out⟩
 ·rw [if_neg hf]
  have hf' : freeX ⟨st, isos, embs, valid⟩ n = false := by simpa using hf
  have HF : Hid (freeX ⟨st, isos, embs, valid⟩ n = false) := hf'
  clear hf hf'
  by_cases hi : isos = 0
  ·rw [if_pos hi]
   subst hi
   go_enter Tryz.func203, Tryz.ntmps203
   go_wp2_with fail
   refine (HN.out _ hb0).mono ?_
   rintro ev w2 ⟨rfl, hb⟩
   have hB2 : Below w.heap.size w w2 := hb0.trans (hb.mono (by simp))
   have j0 : w2.cell? ⟨w.heap.size, 0, none⟩ = some (.int .i64 0) := by rw [hb.cell (p := ⟨w.heap.size, 0, none⟩) (by simp)]; go_simp
   have j1 : w2.cell? ⟨w.heap.size, 1, none⟩ = some (.int .i64 0) := by rw [hb.cell (p := ⟨w.heap.size, 1, none⟩) (by simp)]; go_simp
   have j2 : w2.cell? ⟨w.heap.size, 2, none⟩ = some (.bool false) := by rw [hb.cell (p := ⟨w.heap.size, 2, none⟩) (by simp)]; go_simp
   have g0 : w2.frozen? ⟨w.heap.size, 0, none⟩ = false := by rw [hb.frozen (p := ⟨w.heap.size, 0, none⟩) (by simp)]; go_simp
   have g1 : w2.frozen? ⟨w.heap.size, 1, none⟩ = false := by rw [hb.frozen (p := ⟨w.heap.size, 1, none⟩) (by simp)]; go_simp
   have g2 : w2.frozen? ⟨w.heap.size, 2, none⟩ = false := by rw [hb.frozen (p := ⟨w.heap.size, 2, none⟩) (by simp)]; go_simp
   have HB3 : Hid (Below w.heap.size w (((w2.setCell ⟨w.heap.size, 0, none⟩ (.int .i64 n)).setCell ⟨w.heap.size, 1, none⟩ (.int .i64 1)).setCell ⟨w.heap.size, 2, none⟩ (.bool false))) := ((hB2.setCell (Nat.le_refl _) _).setCell (Nat.le_refl _) _).setCell (Nat.le_refl _) _
   clear hb hB2
   go_wp2_with fail
   refine (fitsW_any _ B s v lp _ n (HW.out _ HB3.out)).mono ?_
   rintro ev wx ⟨rfl, hx⟩
   subst hx
   rw [HF.out]
   clear j0 j1 j2 g0 g1 g2
   generalize ((w2.setCell ⟨w.heap.size, 0, none⟩ (.int .i64 n)).setCell ⟨w.heap.size, 1, none⟩ (.int .i64 1)).setCell ⟨w.heap.size, 2, none⟩ (.bool false) = W3 at *
   have c2 : W3.cell? ⟨s, 2, none⟩ = some (.int .i64 0) := heap_cell (HW.out _ HB3.out).cell 2
   have c3 : W3.cell? ⟨s, 3, none⟩ = some (.int .i64 embs) := heap_cell (HW.out _ HB3.out).cell 3
   have f3 : W3.frozen? ⟨s, 3, none⟩ = false := heap_free (HW.out _ HB3.out).cell 3
   go_wp2
   go_end0
   exact ⟨rfl, _, (HW.out _ HB3.out).setEmbs _, FrS.pre HB3.out (FrS.set _ s v 3 _)⟩
  ·rw [if_neg hi]
   have hi' : (isos == 0) = false := by simpa using hi
   go_enter Tryz.func203, Tryz.ntmps203
   go_wp2_with fail
   refine (HN.out _ hb0).mono ?_
   rintro ev w2 ⟨rfl, hb⟩
   have hB2 : Below w.heap.size w w2 := hb0.trans (hb.mono (by simp))
   have j0 : w2.cell? ⟨w.heap.size, 0, none⟩ = some (.int .i64 0) := by rw [hb.cell (p := ⟨w.heap.size, 0, none⟩) (by simp)]; go_simp
   have j1 : w2.cell? ⟨w.heap.size, 1, none⟩ = some (.int .i64 0) := by rw [hb.cell (p := ⟨w.heap.size, 1, none⟩) (by simp)]; go_simp
   have j2 : w2.cell? ⟨w.heap.size, 2, none⟩ = some (.bool false) := by rw [hb.cell (p := ⟨w.heap.size, 2, none⟩) (by simp)]; go_simp
   have g0 : w2.frozen? ⟨w.heap.size, 0, none⟩ = false := by rw [hb.frozen (p := ⟨w.heap.size, 0, none⟩) (by simp)]; go_simp
   have g1 : w2.frozen? ⟨w.heap.size, 1, none⟩ = false := by rw [hb.frozen (p := ⟨w.heap.size, 1, none⟩) (by simp)]; go_simp
   have g2 : w2.frozen? ⟨w.heap.size, 2, none⟩ = false := by rw [hb.frozen (p := ⟨w.heap.size, 2, none⟩) (by simp)]; go_simp
   have HB3 : Hid (Below w.heap.size w (((w2.setCell ⟨w.heap.size, 0, none⟩ (.int .i64 n)).setCell ⟨w.heap.size, 1, none⟩ (.int .i64 1)).setCell ⟨w.heap.size, 2, none⟩ (.bool false))) := ((hB2.setCell (Nat.le_refl _) _).setCell (Nat.le_refl _) _).setCell (Nat.le_refl _) _
   clear hb hB2
   go_wp2_with fail
   refine (fitsW_any _ B s v lp _ n (HW.out _ HB3.out)).mono ?_
   rintro ev wx ⟨rfl, hx⟩
   subst hx
   rw [HF.out]
   clear j0 j1 j2 g0 g1 g2
   generalize ((w2.setCell ⟨w.heap.size, 0, none⟩ (.int .i64 n)).setCell ⟨w.heap.size, 1, none⟩ (.int .i64 1)).setCell ⟨w.heap.size, 2, none⟩ (.bool false) = W3 at *
   have c2 : W3.cell? ⟨s, 2, none⟩ = some (.int .i64 isos) := heap_cell (HW.out _ HB3.out).cell 2
   go_wp2
   go_end0
   exact ⟨rfl, _, HW.out _ HB3.out, FrS.pre HB3.out (FrS.refl _ s v)⟩
theorem embW_any (w : World) (B s : Nat) (v lp : Value) (x : XS) (c : Int) (hc : embB c = true) (h : WAt w B s v lp x) (hne : x.st ≠ []) (hn : x.st.length ≤ 1000) (hl : 0 ≤ (topE x.st).l) (hl' : (topE x.st).l ≤ 1000) (he : 0 ≤ x.embs ∧ x.embs ≤ 100000) :
  Calls Tryz.prog 203 #[.pointer (some ⟨s, 0, none⟩), .int .i64 c] w fun ev w' => ev = .returned (.tuple #[]) ∧ ∃ v', WAt w' B s v' lp (embedX x c) ∧ FrS w w' s v v' := by
 have : c = 13 ∨ c = 14 ∨ c = 15 ∨ c = 16 := by simpa [embB] using hc
 rcases this with rfl | rfl | rfl | rfl
 ·rw [embX_13]; exact embW_13 w B s v lp x h hne hn hl hl' he
 ·rw [embX_14]; exact embW_14 w B s v lp x h hne hn hl hl' he
 ·rw [embX_15]; exact embW_15 w B s v lp x h hne hn hl hl' he
 ·rw [embX_16]; exact embW_16 w B s v lp x h hne hn hl hl' he
end Go.Proofs.YtkbinfhclaafhaaGreatDoor
namespace Go.Proofs.YtkbinfhclaafhaaGreatDoor
def stepP (lv : List Int) (x : List (List Nat) × List Nat) (p : Nat) : List (List Nat) × List Nat :=
 if x.2 ≠ [] ∧ lv.getD (x.2.headD 0) 0 ≠ lv.getD p 0 then (x.1 ++ [x.2], [p]) else (x.1, x.2 ++ [p])
def leftP (lf : List Bool) (n : Nat) : List Nat := (List.range n).filter (isL lf)
theorem runsF_fold (lv : List Int) (lf : List Bool) : ∀ n i x, runsF lv lf n i x = runEnd (((List.range' i n).filter (isL lf)).foldl (stepP lv) x)
 | 0, i, x => rfl
 | n + 1, i, x => by
  rw [runsF, runsF_fold lv lf n (i + 1), List.range'_succ, List.filter_cons]
  unfold runStep
  cases h : lf.getD i false
  ·have e : isL lf i = false := h
   rw [if_pos rfl, e, if_neg (by decide)]
  ·have e : isL lf i = true := h
   rw [e, if_neg (by decide), if_pos (rfl : true = true), List.foldl_cons]; rfl
theorem runsL_fold (lv : List Int) (lf : List Bool) : runsL lv lf = runEnd ((leftP lf lv.length).foldl (stepP lv) ([], [])) := by
 rw [runsL, runsF_fold, leftP, List.range_eq_range']
def GrpTo (lv : List Int) (left : List Nat) (total runs : List (List Nat)) (fr : Nat) : Prop := runEnd ((left.drop fr).foldl (stepP lv) (runs, [])) = total
def InTo (lv : List Int) (left : List Nat) (total runs : List (List Nat)) (fr to' : Nat) : Prop := runEnd ((left.drop to').foldl (stepP lv) (runs, (left.take to').drop fr)) = total
theorem seg_snoc {left : List Nat} {fr to' : Nat} (h : fr ≤ to') (ht : to' < left.length) : (left.take (to' + 1)).drop fr = (left.take to').drop fr ++ [left.getD to' 0] := by
 rw [List.take_add_one, List.getElem?_eq_getElem ht, List.drop_append_of_le_length (by simp; omega), List.getD_eq_getElem?_getD, List.getElem?_eq_getElem ht]; rfl
theorem seg_head {left : List Nat} {fr to' : Nat} (h : fr < to') (ht : to' ≤ left.length) : ((left.take to').drop fr).headD 0 = left.getD fr 0 ∧ (left.take to').drop fr ≠ [] ∧ ((left.take to').drop fr).length = to' - fr := by
 have hl : ((left.take to').drop fr).length = to' - fr := by simp; omega
 refine ⟨?_, ?_, hl⟩
 ·rw [List.headD_eq_head?_getD, List.head?_drop, List.getElem?_take_of_lt h, List.getD_eq_getElem?_getD]
 ·intro e; rw [e] at hl; simp at hl; omega
theorem drop_first {left : List Nat} {k : Nat} (h : k < left.length) : left.drop k = left.getD k 0 :: left.drop (k + 1) := by
 rw [List.drop_eq_getElem_cons h, List.getD_eq_getElem?_getD, List.getElem?_eq_getElem h]; rfl
theorem GrpTo.start (lv : List Int) (lf : List Bool) : GrpTo lv (leftP lf lv.length) (runsL lv lf) [] 0 := by rw [GrpTo, runsL_fold]; rfl
theorem GrpTo.opn {lv : List Int} {left : List Nat} {total runs : List (List Nat)} {fr : Nat} (h : GrpTo lv left total runs fr) (hf : fr < left.length) : InTo lv left total runs fr (fr + 1) := by
 unfold GrpTo at h
 rw [drop_first hf, List.foldl_cons] at h
 rw [InTo, seg_snoc (Nat.le_refl _) hf, List.drop_eq_nil_of_le (by simp; omega)]
 rw [stepP, if_neg (fun hh => hh.1 rfl)] at h
 exact h
theorem InTo.more {lv : List Int} {left : List Nat} {total runs : List (List Nat)} {fr to' : Nat} (h : InTo lv left total runs fr to') (hft : fr < to') (ht : to' < left.length) (he : lv.getD (left.getD to' 0) 0 = lv.getD (left.getD fr 0) 0) : InTo lv left total runs fr (to' + 1) := by
 unfold InTo at h
 rw [drop_first ht, List.foldl_cons, stepP, if_neg (fun hh => hh.2 (by simp only; rw [(seg_head hft (Nat.le_of_lt ht)).1, he]))] at h
 rw [InTo, seg_snoc (Nat.le_of_lt hft) ht]
 exact h
theorem InTo.shut {lv : List Int} {left : List Nat} {total runs : List (List Nat)} {fr to' : Nat} (h : InTo lv left total runs fr to') (hft : fr < to') (ht : to' ≤ left.length) (he : ¬ to' < left.length ∨ lv.getD (left.getD to' 0) 0 ≠ lv.getD (left.getD fr 0) 0) : GrpTo lv left total (runs ++ [(left.take to').drop fr]) to' := by
 unfold InTo at h
 obtain ⟨h1, h2, _⟩ := seg_head hft ht
 rcases Nat.lt_or_ge to' left.length with hlt | hge
 ·rw [drop_first hlt, List.foldl_cons, stepP, if_pos ⟨h2, by simp only; rw [h1]; exact fun e => he.elim (fun h => h hlt) (fun h => h e.symm)⟩] at h
  rw [GrpTo, drop_first hlt, List.foldl_cons]
  have : stepP lv (runs ++ [(left.take to').drop fr], []) (left.getD to' 0) = (runs ++ [(left.take to').drop fr], [left.getD to' 0]) := by
   rw [stepP, if_neg (fun hh => hh.1 rfl)]; rfl
  rw [this]
  exact h
 ·rw [List.drop_eq_nil_of_le hge, List.foldl_nil, runEnd, if_neg h2] at h
  rw [GrpTo, List.drop_eq_nil_of_le hge, List.foldl_nil, runEnd, if_pos rfl]
  exact h
theorem GrpTo.done {lv : List Int} {left : List Nat} {total runs : List (List Nat)} {fr : Nat} (h : GrpTo lv left total runs fr) (hf : ¬ fr < left.length) : runs = total := by
 unfold GrpTo at h
 rw [List.drop_eq_nil_of_le (by omega), List.foldl_nil, runEnd, if_pos rfl] at h
 exact h
theorem chainF_succ (cs : List Int) (rs : List (List Nat)) : ∀ f p, chainF cs rs (f + 1) p = match nextRun cs rs ((chainF cs rs f p).getLastD 0) with
  | none => chainF cs rs f p
  | some k => chainF cs rs f p ++ rs.getD k []
 | 0, p => by
  rw [chainF]
  cases h : nextRun cs rs (p.getLastD 0) <;> simp only [chainF, h]
 | f + 1, p => by
  rw [chainF]
  cases h : nextRun cs rs (p.getLastD 0) with
  | none => simp only [chainF, h]
  | some k =>
   simp only
   rw [chainF_succ cs rs f (p ++ rs.getD k [])]
   rw [show chainF cs rs (f + 1) p = chainF cs rs f (p ++ rs.getD k []) by rw [chainF, h]]
theorem chainF_stop {cs : List Int} {rs : List (List Nat)} {a : Nat} {p : List Nat} (h : nextRun cs rs ((chainF cs rs a p).getLastD 0) = none) : ∀ d, chainF cs rs (a + d) p = chainF cs rs a p
 | 0 => rfl
 | d + 1 => by
  rw [← Nat.add_assoc, chainF_succ, chainF_stop h d, h]
theorem chainF_go {cs : List Int} {rs : List (List Nat)} {a k : Nat} {p : List Nat} (h : nextRun cs rs ((chainF cs rs a p).getLastD 0) = some k) : chainF cs rs (a + 1) p = chainF cs rs a p ++ rs.getD k [] := by
 rw [chainF_succ, h]
theorem chain_nodup {cs : List Int} {rs : List (List Nat)} (h : RunsOk cs.length rs) (f : Nat) {r : List Nat} (hr : r ∈ rs) (hb : begsB cs r = true) : (chainF cs rs f r).Nodup :=
 have key : ∀ (l : List (List Nat)), (l.flatMap (chainF cs rs f)).Nodup → ∀ r ∈ l, (chainF cs rs f r).Nodup := by
  intro l
  induction l with
  | nil => intro _ r hr; cases hr
  | cons a l ih =>
   intro hn r hr
   rw [List.flatMap_cons, List.nodup_append] at hn
   rcases List.mem_cons.1 hr with rfl | hr
   ·exact hn.1
   ·exact ih hn.2.1 r hr
 key _ (seqs_nodup h f) r (List.mem_filter.2 ⟨hr, hb⟩)
theorem nextRun_some {cs : List Int} {rs : List (List Nat)} {last k : Nat} (h : nextRun cs rs last = some k) : k < rs.length ∧ isoB (cs.getD last 0) = true ∧ (rs.getD k []).headD 0 = mt cs last := by
 unfold nextRun at h
 split at h
 ·rename_i hi
  obtain ⟨h1, h2⟩ := nextK_some _ _ h
  exact ⟨h1, hi, h2⟩
 ·cases h
theorem chain_lt {cs : List Int} {rs : List (List Nat)} (h : RunsOk cs.length rs) {r : List Nat} (hr : r ∈ rs) : ∀ f, ∀ p ∈ chainF cs rs f r, p < cs.length
 | 0 => h.lt r hr
 | f + 1 => by
  rw [chainF_succ]
  cases hn : nextRun cs rs ((chainF cs rs f r).getLastD 0) with
  | none => exact chain_lt h hr f
  | some k =>
   intro p hp
   rcases List.mem_append.1 hp with hp | hp
   ·exact chain_lt h hr f p hp
   ·exact h.lt _ (getD_mem (nextRun_some hn).1) p hp
theorem few_nodup : ∀ (l : List Nat) (n : Nat), l.Nodup → (∀ a ∈ l, a < n) → l.length ≤ n
 | [], n, _, _ => by simp
 | a :: l, 0, _, h => by have := h a (by simp); omega
 | a :: l, n + 1, hn, h => by
  have ih := few_nodup ((a :: l).erase n) n (hn.erase n) (fun b hb => by
   have h1 := h b (List.mem_of_mem_erase hb)
   have h2 : b ≠ n := fun e => by subst e; exact (List.Nodup.not_mem_erase hn) hb
   omega)
  by_cases hm : n ∈ a :: l
  ·rw [List.length_erase_of_mem hm] at ih; omega
  ·rw [List.erase_of_not_mem hm] at ih; omega
theorem chainR_len {cs : List Int} {rs : List (List Nat)} (h : RunsOk cs.length rs) (f : Nat) {r : List Nat} (hr : r ∈ rs) (hb : begsB cs r = true) : (chainF cs rs f r).length ≤ cs.length :=
 few_nodup _ _ (chain_nodup h f hr hb) (chain_lt h hr f)
end Go.Proofs.YtkbinfhclaafhaaGreatDoor
