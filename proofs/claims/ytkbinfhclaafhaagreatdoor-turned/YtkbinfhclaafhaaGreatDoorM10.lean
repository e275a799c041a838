import Derived.Test.YtkbinfhclaafhaaGreatDoorM09
import Derived.Deep.RegionWith
import Derived.BigQuiet
namespace Go.Proofs.YtkbinfhclaafhaaGreatDoor
open Go.RowKit
structure LnR (w : World) (lb gt gm n ct cm : Nat) (r c l : Value) (p : Int) (cs : List Int) : Prop where
 cell : w.heap[lb]? = some (.cells #[r, .slice (some ⟨gt, 0, none⟩) n ct, c, l, .slice (some ⟨gm, 0, none⟩) n cm, .int .i64 p] 141 (0, 0))
 tb : IntsAt w gt 0 cs
 ms : IntsAt w gm 0 (matchL cs)
 len : cs.length = n
theorem LnR.below {w w' : World} {lb gt gm n ct cm : Nat} {r c l : Value} {p : Int} {cs : List Int} (h : LnR w lb gt gm n ct cm r c l p cs) (hb : Below w.heap.size w w') : LnR w' lb gt gm n ct cm r c l p cs :=
 ⟨heap_keep hb h.cell, h.tb.below hb, h.ms.below hb, h.len⟩
def endM (cs : List Int) (i : Nat) : Int := if (matchL cs).getD i 0 = -1 then (cs.length : Int) else (matchL cs).getD i 0
theorem endM_iso {cs : List Int} {i : Nat} (hi : i < cs.length) (h : isoB (cs.getD i 0) = true) : endM cs i = (mt cs i : Int) := by
 unfold endM
 rw [matchL_iso hi h]
 have := mt_le cs i (Nat.le_of_lt hi)
 by_cases hm : mt cs i < cs.length
 ·rw [if_pos hm, if_neg (by omega)]
 ·rw [if_neg hm, if_pos rfl]; omega
set_option maxRecDepth 100000 in
set_option maxHeartbeats 2000000 in
theorem isoEnd_any (w : World) (lb gt gm n ct cm : Nat) (r c l : Value) (p : Int) (cs : List Int) (h : LnR w lb gt gm n ct cm r c l p cs) (i : Nat) (hi : i < n) :
  Calls Tryz.prog 236 #[.pointer (some ⟨lb, 0, none⟩), .int .i64 i] w fun e w' => e = .returned (.int .i64 (endM cs i)) ∧ w' = w := by
 have c1 : w.cell? ⟨lb, 1, none⟩ = some (.slice (some ⟨gt, 0, none⟩) n ct) := heap_cell h.cell 1
 have c4 : w.cell? ⟨lb, 4, none⟩ = some (.slice (some ⟨gm, 0, none⟩) n cm) := heap_cell h.cell 4
 have cq : w.cell? ⟨gm, i, none⟩ = some (.int .i64 ((matchL cs).getD i 0)) := by
  have := h.ms i (by rw [matchL_length, h.len]; exact hi)
  simpa using this
 have hi' : (i : Int) < (n : Int) := by omega
 unfold endM
 rw [h.len]
 generalize (matchL cs).getD i 0 = m at *
 clear h
 by_cases hm : m = -1
 ·subst hm
  rw [if_pos rfl]
  go_enter Tryz.func236, Tryz.ntmps236
  go_wp2
  go_ret
  exact ⟨rfl, rfl⟩
 ·rw [if_neg hm]
  have hm' : (m == -1) = false := by simpa using hm
  go_enter Tryz.func236, Tryz.ntmps236
  go_wp2
  go_ret
  exact ⟨rfl, rfl⟩
theorem pfF_out (cs : List Int) (to' : Nat) : ∀ f i, ¬ i < to' → pfF cs to' f i = 0
 | 0, _, _ => rfl
 | f + 1, i, h => by rw [pfF, if_neg h]
theorem pfF_01 (cs : List Int) (to' : Nat) : ∀ f i, pfF cs to' f i = 0 ∨ pfF cs to' f i = 1
 | 0, _ => .inl rfl
 | f + 1, i => by
  rw [pfF]
  split
  ·split
   ·exact .inl rfl
   ·split
    ·exact .inr rfl
    ·split
     ·exact pfF_01 cs to' f _
     ·exact pfF_01 cs to' f _
  ·exact .inl rfl
set_option maxRecDepth 100000 in
set_option maxHeartbeats 8000000 in
theorem foundW_any (w : World) (lb gt gm n ct cm : Nat) (r c l : Value) (p : Int) (cs : List Int) (h : LnR w lb gt gm n ct cm r c l p cs) (hn : n ≤ 1000) (fr to' f : Nat) (hto : to' ≤ n) (hfr : fr ≤ n + 1) (hf : n + 1 - fr ≤ f) :
  Calls Tryz.prog 199 #[.pointer (some ⟨lb, 0, none⟩), .int .i64 fr, .int .i64 to'] w fun e w' => e = .returned (.int .i64 (pfF cs to' f fr)) ∧ w' = w := by
 have HIE : Hid (∀ i : Nat, i < n → Calls Tryz.prog 236 #[.pointer (some ⟨lb, 0, none⟩), .int .i64 i] w fun e w' => e = .returned (.int .i64 (endM cs i)) ∧ w' = w) := fun i hi => isoEnd_any w lb gt gm n ct cm r c l p cs h i hi
 have c1 : w.cell? ⟨lb, 1, none⟩ = some (.slice (some ⟨gt, 0, none⟩) n ct) := heap_cell h.cell 1
 have HT : Hid (∀ k : Nat, k < n → w.cell? ⟨gt, k, none⟩ = some (.int .i64 (cs.getD k 0))) := fun k hk => by
  have := h.tb k (by rw [h.len]; exact hk)
  simpa using this
 have HL : Hid (cs.length = n) := h.len
 obtain ⟨P, hP⟩ : ∃ P, P = pfF cs to' f fr := ⟨_, rfl⟩
 rw [← hP]
 have HP : Hid (pfF cs to' f fr = P) := hP.symm
 clear h hP
 go_enter Tryz.func199, Tryz.ntmps199
 go_wp2
 go_loopg [7] (n + 1 - fr) (fun gh kv W => ∃ (k f' : Nat), k ≤ n + 1 ∧ gh = n + 1 - k ∧ gh ≤ f' ∧ kv = .int .i64 k ∧ W = w ∧ pfF cs to' f' k = P)
 case atStart => exact ⟨fr, f, hfr, rfl, hf, rfl, rfl, HP.out⟩
 case round =>
  obtain ⟨k, f', hk, rfl, hgf, rfl, hW, hp⟩ := hrel
  have hW' := hW.symm
  subst hW'
  clear HP
  by_cases hlt : k < to'
  ·obtain ⟨f2, rfl⟩ : ∃ f2, f' = f2 + 1 := ⟨f' - 1, by omega⟩
   rw [pfF, if_pos hlt] at hp
   have hkn : k < n := by omega
   have ck := HT.out k hkn
   have HI : Hid (Calls Tryz.prog 236 #[.pointer (some ⟨lb, 0, none⟩), .int .i64 k] w fun e w' => e = .returned (.int .i64 (endM cs k)) ∧ w' = w) := HIE.out k hkn
   have HEn : Hid (isoB (cs.getD k 0) = true → endM cs k = (mt cs k : Int) ∧ k ≤ mt cs k ∧ mt cs k ≤ n) := fun hh => ⟨endM_iso (by rw [HL.out]; exact hkn) hh, by have := mt_le cs k (by rw [HL.out]; omega); rw [HL.out] at this; exact this⟩
   have hlt' : (k : Int) < (to' : Int) := by omega
   generalize cs.getD k 0 = q at *
   by_cases h0 : q = 0
   ·rw [if_pos h0] at hp
    subst h0
    have HP : Hid ((0 : Int) = P) := hp
    clear hp
    go_wp2
    go_ret
    exact ⟨ret_int HP.out, rfl⟩
   ·rw [if_neg h0] at hp
    have h0' : (q == 0) = false := by simpa using h0
    by_cases h1 : q = 1
    ·rw [if_pos (.inl h1)] at hp
     subst h1
     have HP : Hid ((1 : Int) = P) := hp
     clear hp
     go_wp2
     go_ret
     exact ⟨ret_int HP.out, rfl⟩
    ·have h1' : (q == 1) = false := by simpa using h1
     by_cases h2 : q = 2
     ·rw [if_pos (.inr h2)] at hp
      subst h2
      have HP : Hid ((1 : Int) = P) := hp
      clear hp
      go_wp2
      go_ret
      exact ⟨ret_int HP.out, rfl⟩
     ·rw [if_neg (by omega)] at hp
      have h2' : (q == 2) = false := by simpa using h2
      cases hiso : isoB q
      ·rw [if_neg (by rw [hiso]; decide)] at hp
       have HP : Hid (pfF cs to' f2 (k + 1) = P) := hp
       have HQ : Hid (isoB q = false) := hiso
       clear hp hiso
       go_wp2_with fail
       refine (isolates_any q _).mono ?_
       rintro ev wx ⟨rfl, hx⟩
       subst hx
       rw [HQ.out]
       go_wp2
       go_roundg (n + 1 - (k + 1))
       case measure => omega
       case rel => exact ⟨k + 1, f2, by omega, rfl, by omega, by go_num, rfl, HP.out⟩
      ·rw [if_pos hiso] at hp
       have HP : Hid (pfF cs to' f2 (mt cs k + 1) = P) := hp
       have HQ : Hid (isoB q = true) := hiso
       obtain ⟨he, hge, hle⟩ := HEn.out hiso
       rw [he] at HI
       generalize mt cs k = z at *
       clear hp hiso he
       go_wp2_with fail
       refine (isolates_any q _).mono ?_
       rintro ev wx ⟨rfl, hx⟩
       subst hx
       rw [HQ.out]
       go_wp2_with fail
       refine HI.out.mono ?_
       rintro ev wx ⟨rfl, hx⟩
       subst hx
       go_wp2
       go_roundg (n + 1 - (z + 1))
       case measure => omega
       case rel => exact ⟨z + 1, f2, by omega, rfl, by omega, by go_num, rfl, HP.out⟩
  ·have HP : Hid ((0 : Int) = P) := by show _ = _; rw [← hp, pfF_out _ _ _ _ hlt]
   have hlt' : ¬ (k : Int) < (to' : Int) := by omega
   clear hp
   go_wp2
   go_ret
   exact ⟨ret_int HP.out, rfl⟩
end Go.Proofs.YtkbinfhclaafhaaGreatDoor
namespace Go.Proofs.YtkbinfhclaafhaaGreatDoor
open Go.RowKit
set_option maxRecDepth 100000 in
set_option maxHeartbeats 8000000 in
theorem isoSideW_any (w : World) (s lb gt gm n ct cm : Nat) (r c l : Value) (p : Int) (cs : List Int) (h : LnR w lb gt gm n ct cm r c l p cs) (hn : n ≤ 1000) (cp : w.cell? ⟨s, 0, none⟩ = some (.pointer (some ⟨lb, 0, none⟩))) (_hs : s < w.heap.size) (i : Nat) (hi : i < n) (hq : cs.getD i 0 = 18 ∨ cs.getD i 0 = 19 ∨ cs.getD i 0 = 20) :
  Calls Tryz.prog 205 #[.pointer (some ⟨s, 0, none⟩), .int .i64 i] w fun e w' => e = .returned (.int .i64 (if cs.getD i 0 = 18 then 0 else if cs.getD i 0 = 19 then 1 else fsiOdd cs i)) ∧ Below w.heap.size w w' := by
 have c1 : w.cell? ⟨lb, 1, none⟩ = some (.slice (some ⟨gt, 0, none⟩) n ct) := heap_cell h.cell 1
 have ck : w.cell? ⟨gt, i, none⟩ = some (.int .i64 (cs.getD i 0)) := by
  have := h.tb i (by rw [h.len]; exact hi)
  simpa using this
 have hi' : (i : Int) < (n : Int) := by omega
 have HR : Hid (LnR w lb gt gm n ct cm r c l p cs) := h
 have hiso : isoB (cs.getD i 0) = true := by rcases hq with e | e | e <;> rw [e] <;> rfl
 have hend : endM cs i = (mt cs i : Int) := endM_iso (by rw [h.len]; exact hi) hiso
 have hml := mt_le cs i (by rw [h.len]; omega)
 rw [h.len] at hml
 have hodd : pfF cs (mt cs i) (n + 1) (i + 1) = fsiOdd cs i := fsiOdd_pf (by rw [h.len]; exact hi) hiso (n + 1) (by omega)
 have HF : Hid (∀ W, Below w.heap.size w W → Calls Tryz.prog 199 #[.pointer (some ⟨lb, 0, none⟩), .int .i64 ((i : Int) + 1), .int .i64 (mt cs i)] W fun e w' => e = .returned (.int .i64 (fsiOdd cs i)) ∧ w' = W) := fun W hb => by
  rw [← hodd]
  have := foundW_any W lb gt gm n ct cm r c l p cs (h.below hb) hn (i + 1) (mt cs i) (n + 1) hml.2 (by omega) (by omega)
  rw [Int.natCast_add] at this
  exact this
 have HE : Hid (∀ W, Below w.heap.size w W → Calls Tryz.prog 236 #[.pointer (some ⟨lb, 0, none⟩), .int .i64 i] W fun e w' => e = .returned (.int .i64 (mt cs i)) ∧ w' = W) := fun W hb => by
  rw [← hend]
  exact isoEnd_any W lb gt gm n ct cm r c l p cs (h.below hb) i hi
 have h01 : fsiOdd cs i = 0 ∨ fsiOdd cs i = 1 := by rw [← hodd]; exact pfF_01 _ _ _ _
 clear h hiso hend hml hodd HR
 generalize fsiOdd cs i = d at *
 generalize mt cs i = z at *
 generalize cs.getD i 0 = q at *
 rcases hq with rfl | rfl | rfl
 ·rw [if_pos rfl]
  go_enter Tryz.func205, Tryz.ntmps205
  go_wp2
  go_ret
  exact ⟨rfl, Below.refl _ _⟩
 ·rw [if_neg (by decide), if_pos rfl]
  go_enter Tryz.func205, Tryz.ntmps205
  go_wp2
  go_ret
  exact ⟨rfl, Below.refl _ _⟩
 ·rw [if_neg (by decide), if_neg (by decide)]
  have hd2 : d % 2 = d := by omega
  have hd0 : 0 ≤ d := by omega
  have HD : Hid (d % 2 = d ∧ 0 ≤ d) := ⟨hd2, hd0⟩
  clear hd2 hd0 h01
  go_enter Tryz.func205, Tryz.ntmps205
  go_wp2_with fail
  go_quiet (first
   | (go_at_call 236; refine Calls.quiet_of_same (HE.out _ ?_); exact below_drewN (Below.refl _ _) _)
   | (go_at_call 199; refine Calls.quiet_of_same (HF.out _ ?_); exact below_drewN (Below.refl _ _) _)
   | (go_at_call 96; refine Calls.quiet_of_same (sideOf_any d _ HD.out.2)))
  go_wp2
  go_ret
  exact ⟨ret_int HD.out.1, below_drewN (Below.refl _ _) _⟩
end Go.Proofs.YtkbinfhclaafhaaGreatDoor
namespace Go.Proofs.YtkbinfhclaafhaaGreatDoor
open Go.RowKit
structure LP where
 B : Nat
 lb : Nat
 gr : Nat
 gt : Nat
 gc : Nat
 gl : Nat
 gm : Nat
 n : Nat
 cr : Nat
 ct : Nat
 p : Int
 rs : List Int
 cs : List Int
def LP.rv (L : LP) : Value := .slice (some ⟨L.gr, 0, none⟩) L.n L.cr
def LP.has (L : LP) (g : Nat) : Prop := g = L.lb ∨ g = L.gr ∨ g = L.gt ∨ g = L.gc ∨ g = L.gl ∨ g = L.gm
structure LX (w : World) (L : LP) (ks ls : List Int) : Prop where
 cell : w.heap[L.lb]? = some (.cells #[L.rv, .slice (some ⟨L.gt, 0, none⟩) L.n L.ct, .slice (some ⟨L.gc, 0, none⟩) L.n L.n, .slice (some ⟨L.gl, 0, none⟩) L.n L.n, .slice (some ⟨L.gm, 0, none⟩) L.n L.n, .int .i64 L.p] 141 (0, 0))
 ru : ∀ k, k < L.n → w.cell? ⟨L.gr, k, none⟩ = some (.int .i32 (L.rs.getD k 0))
 tb : IntsAt w L.gt 0 L.cs
 ms : IntsAt w L.gm 0 (matchL L.cs)
 len : L.cs.length = L.n
 rc : RowAt w L.B 108 L.gc L.n (iv ks)
 rl : RowAt w L.B 3 L.gl L.n (iv ls)
 lt : ∀ g, L.has g → g < w.heap.size
 nl : L.gl ≠ L.lb ∧ L.gl ≠ L.gr ∧ L.gl ≠ L.gt ∧ L.gl ≠ L.gc ∧ L.gl ≠ L.gm
 nc : L.gc ≠ L.lb ∧ L.gc ≠ L.gr ∧ L.gc ≠ L.gt ∧ L.gc ≠ L.gm
structure XP (w : World) (L : LP) (s : Nat) (v : Value) (ks ls : List Int) (x : XS) : Prop where
 wk : WAt w L.B s v (.pointer (some ⟨L.lb, 0, none⟩)) x
 ln : LX w L ks ls
 ap : ∀ g, L.has g → g ≠ s ∧ v.ownBlock ≠ some g
section
variable {w w' : World} {L : LP} {s : Nat} {v v' : Value} {ks ls : List Int} {x x' : XS}
theorem IntsAt.ofBlock {w w' : World} {b off : Nat} {l : List Int} (h : IntsAt w b off l) (he : w'.heap[b]? = w.heap[b]?) : IntsAt w' b off l := fun i hi => by
 have := h i hi
 simp only [World.cell?] at this ⊢
 rw [he]
 exact this
theorem LX.lnR (h : LX w L ks ls) : LnR w L.lb L.gt L.gm L.n L.ct L.n L.rv (.slice (some ⟨L.gc, 0, none⟩) L.n L.n) (.slice (some ⟨L.gl, 0, none⟩) L.n L.n) L.p L.cs := ⟨h.cell, h.tb, h.ms, h.len⟩
theorem LX.same (h : LX w L ks ls) (hs : w.heap.size ≤ w'.heap.size) (hb : ∀ g, L.has g → w'.heap[g]? = w.heap[g]?) : LX w' L ks ls := by
 have u : ∀ g, L.has g → ∀ k, w'.cell? ⟨g, k, none⟩ = w.cell? ⟨g, k, none⟩ := fun g hg k => by simp only [World.cell?]; rw [hb g hg]
 refine ⟨by rw [hb L.lb (by simp [LP.has])]; exact h.cell, fun k hk => by rw [u L.gr (by simp [LP.has])]; exact h.ru k hk, h.tb.ofBlock (hb L.gt (by simp [LP.has])), h.ms.ofBlock (hb L.gm (by simp [LP.has])), h.len, ?_, ?_, fun g hg => Nat.lt_of_lt_of_le (h.lt g hg) hs, h.nl, h.nc⟩
 ·exact ownsRow_blocks h.rc fun k o hk ho => by
   obtain rfl : L.gc = k := by simpa [Value.ownBlock] using hk
   rw [hb L.gc (by simp [LP.has])]; exact ho
 ·exact ownsRow_blocks h.rl fun k o hk ho => by
   obtain rfl : L.gl = k := by simpa [Value.ownBlock] using hk
   rw [hb L.gl (by simp [LP.has])]; exact ho
theorem LX.below (h : LX w L ks ls) (hb : Below w.heap.size w w') : LX w' L ks ls := h.same hb.size fun g hg => hb.block g (h.lt g hg)
theorem XP.below (h : XP w L s v ks ls x) (hb : Below w.heap.size w w') : XP w' L s v ks ls x := ⟨h.wk.below hb, h.ln.below hb, h.ap⟩
theorem XP.frs (h : XP w L s v ks ls x) (hw : WAt w' L.B s v' (.pointer (some ⟨L.lb, 0, none⟩)) x') (hf : FrS w w' s v v') : XP w' L s v' ks ls x' :=
 ⟨hw, h.ln.same hf.size fun g hg => hf.block g (h.ln.lt g hg) (h.ap g hg).1 (h.ap g hg).2, fun g hg => ⟨(h.ap g hg).1, hf.apt (h.ln.lt g hg) (h.ap g hg).2⟩⟩
theorem LX.setL (h : LX w L ks ls) (k : Nat) (a : Int) : LX (w.setCell ⟨L.gl, k, none⟩ (.int .i64 a)) L ks (ls.set k a) := by
 have hne : ∀ g, g ≠ L.gl → (w.setCell ⟨L.gl, k, none⟩ (.int .i64 a)).heap[g]? = w.heap[g]? := fun g hg => Below.heap_setCell _ _ _ _ hg
 have u : ∀ g, g ≠ L.gl → ∀ j, (w.setCell ⟨L.gl, k, none⟩ (.int .i64 a)).cell? ⟨g, j, none⟩ = w.cell? ⟨g, j, none⟩ := fun g hg j => by simp only [World.cell?]; rw [hne g hg]
 obtain ⟨n1, n2, n3, n4, n5⟩ := h.nl
 exact ⟨by rw [hne L.lb n1.symm]; exact h.cell, fun j hj => by rw [u L.gr n2.symm]; exact h.ru j hj, h.tb.ofBlock (hne L.gt n3.symm), h.ms.ofBlock (hne L.gm n5.symm), h.len, h.rc.setOther L.gl k _ n4.symm, by rw [← iv_set]; exact h.rl.set k _, fun g hg => by simpa using h.lt g hg, h.nl, h.nc⟩
theorem LX.setC (h : LX w L ks ls) (k : Nat) (a : Int) : LX (w.setCell ⟨L.gc, k, none⟩ (.int .i64 a)) L (ks.set k a) ls := by
 have hne : ∀ g, g ≠ L.gc → (w.setCell ⟨L.gc, k, none⟩ (.int .i64 a)).heap[g]? = w.heap[g]? := fun g hg => Below.heap_setCell _ _ _ _ hg
 have u : ∀ g, g ≠ L.gc → ∀ j, (w.setCell ⟨L.gc, k, none⟩ (.int .i64 a)).cell? ⟨g, j, none⟩ = w.cell? ⟨g, j, none⟩ := fun g hg j => by simp only [World.cell?]; rw [hne g hg]
 obtain ⟨n1, n2, n3, n4⟩ := h.nc
 exact ⟨by rw [hne L.lb n1.symm]; exact h.cell, fun j hj => by rw [u L.gr n2.symm]; exact h.ru j hj, h.tb.ofBlock (hne L.gt n3.symm), h.ms.ofBlock (hne L.gm n4.symm), h.len, by rw [← iv_set]; exact h.rc.set k _, h.rl.setOther L.gc k _ h.nl.2.2.2.1, fun g hg => by simpa using h.lt g hg, h.nl, h.nc⟩
theorem XP.setL (h : XP w L s v ks ls x) (k : Nat) (a : Int) : XP (w.setCell ⟨L.gl, k, none⟩ (.int .i64 a)) L s v ks (ls.set k a) x :=
 ⟨h.wk.setOther (h.ap L.gl (by simp [LP.has])).1 (h.ap L.gl (by simp [LP.has])).2 k _, h.ln.setL k a, h.ap⟩
theorem XP.setC (h : XP w L s v ks ls x) (k : Nat) (a : Int) : XP (w.setCell ⟨L.gc, k, none⟩ (.int .i64 a)) L s v (ks.set k a) ls x :=
 ⟨h.wk.setOther (h.ap L.gc (by simp [LP.has])).1 (h.ap L.gc (by simp [LP.has])).2 k _, h.ln.setC k a, h.ap⟩
theorem XP.drew (h : XP w L s v ks ls x) : XP w.drew L s v ks ls x := h.below (Below.refl _ _).drew
end
def ovO (c o : Int) : Int := if o = -1 then c else o
set_option maxRecDepth 100000 in
set_option maxHeartbeats 8000000 in
theorem settleW_any (w : World) (L : LP) (s : Nat) (v : Value) (ks ls : List Int) (x : XS) (h : XP w L s v ks ls x) (hne : x.st ≠ []) (hn : x.st.length ≤ 1000) (i : Nat) (hi : i < L.n) :
  Calls Tryz.prog 201 #[.pointer (some ⟨s, 0, none⟩), .int .i64 i] w fun ev w' => ev = .returned (.tuple #[]) ∧ XP w' L s v (ks.set i (ovO (ks.getD i 0) (topE x.st).o)) (ls.set i (topE x.st).l) x ∧ Below L.B w w' := by
 have HT : Hid (Calls Tryz.prog 238 #[.pointer (some ⟨s, 1, none⟩)] w fun ev w' => ev = .returned (.agg #[.int .i64 (topE x.st).l, .int .i64 (topE x.st).o, .bool (topE x.st).i]) ∧ Below w.heap.size w w') := topE_any w L.B s v _ x _ h.wk (topE_get' hne) (by omega)
 have HX : Hid (∀ W, Below w.heap.size w W → XP W L s v ks ls x) := fun W hb => h.below hb
 have hBw : L.B ≤ w.heap.size := Nat.le_trans h.wk.low (Nat.le_of_lt (heap_lt h.wk.cell))
 have hBl : L.B ≤ L.gl := h.ln.rl.ge.1
 have hBc : L.B ≤ L.gc := h.ln.rc.ge.1
 have HK : Hid (ks.length = L.n ∧ ls.length = L.n) := ⟨by have := h.ln.rc.1; simpa [iv] using this, by have := h.ln.rl.1; simpa [iv] using this⟩
 have hi' : (i : Int) < (L.n : Int) := by omega
 clear h hne hn
 generalize topE x.st = t at *
 obtain ⟨tl, to', ti⟩ := t
 simp only at HT ⊢
 unfold ovO
 by_cases ho : to' = -1
 ·subst ho
  rw [if_pos rfl]
  go_enter Tryz.func201, Tryz.ntmps201
  go_wp2_with fail
  refine HT.out.mono ?_
  rintro ev w2 ⟨rfl, hb⟩
  have hB3 : Below w.heap.size w (w2.alloc (.cells #[.int .i64 tl, .int .i64 (-1), .bool ti] 215)) := hb.alloc hb.size _
  have HX3 := HX.out _ hB3
  have a0 : (w2.alloc (.cells #[.int .i64 tl, .int .i64 (-1), .bool ti] 215)).cell? ⟨s, 0, none⟩ = some (.pointer (some ⟨L.lb, 0, none⟩)) := heap_cell HX3.wk.cell 0
  have a3 : (w2.alloc (.cells #[.int .i64 tl, .int .i64 (-1), .bool ti] 215)).cell? ⟨L.lb, 3, none⟩ = some (.slice (some ⟨L.gl, 0, none⟩) L.n L.n) := heap_cell HX3.ln.cell 3
  have al : (w2.alloc (.cells #[.int .i64 tl, .int .i64 (-1), .bool ti] 215)).cell? ⟨L.gl, i, none⟩ = some (.int .i64 (ls.getD i 0)) := own_icell HX3.ln.rl i (by rw [HK.out.2]; exact hi)
  have fl : (w2.alloc (.cells #[.int .i64 tl, .int .i64 (-1), .bool ti] 215)).frozen? ⟨L.gl, i, none⟩ = false := HX3.ln.rl.frozen i
  have hgl : L.gl ≠ w2.heap.size := by
   have := (HX.out _ hb).ln.rl.ge.2
   omega
  have HB3 : Hid _ := hB3
  have HXX : Hid _ := HX3
  clear hb hB3 HX3 HT
  go_wp2
  go_region
  all_goals
   go_wp2
   go_end0
   refine ⟨rfl, ?_, (HB3.out.mono hBw).drew.setCell (p := ⟨L.gl, i, none⟩) hBl _⟩
   have e : ks.set i (ks.getD i 0) = ks := by
    rw [List.getD_eq_getElem?_getD, List.getElem?_eq_getElem (by rw [HK.out.1]; exact hi)]; exact List.set_getElem_self _
   rw [e]
   exact HXX.out.drew.setL i tl
 ·rw [if_neg ho]
  have ho' : (to' != -1) = true := by simpa using ho
  go_enter Tryz.func201, Tryz.ntmps201
  go_wp2_with fail
  refine HT.out.mono ?_
  rintro ev w2 ⟨rfl, hb⟩
  have hB3 : Below w.heap.size w (w2.alloc (.cells #[.int .i64 tl, .int .i64 to', .bool ti] 215)) := hb.alloc hb.size _
  have HX3 := HX.out _ hB3
  have a0 : (w2.alloc (.cells #[.int .i64 tl, .int .i64 to', .bool ti] 215)).cell? ⟨s, 0, none⟩ = some (.pointer (some ⟨L.lb, 0, none⟩)) := heap_cell HX3.wk.cell 0
  have a3 : (w2.alloc (.cells #[.int .i64 tl, .int .i64 to', .bool ti] 215)).cell? ⟨L.lb, 3, none⟩ = some (.slice (some ⟨L.gl, 0, none⟩) L.n L.n) := heap_cell HX3.ln.cell 3
  have al : (w2.alloc (.cells #[.int .i64 tl, .int .i64 to', .bool ti] 215)).cell? ⟨L.gl, i, none⟩ = some (.int .i64 (ls.getD i 0)) := own_icell HX3.ln.rl i (by rw [HK.out.2]; exact hi)
  have fl : (w2.alloc (.cells #[.int .i64 tl, .int .i64 to', .bool ti] 215)).frozen? ⟨L.gl, i, none⟩ = false := HX3.ln.rl.frozen i
  have hgl : L.gl ≠ w2.heap.size := by
   have := (HX.out _ hb).ln.rl.ge.2
   omega
  have HB3 : Hid _ := hB3
  have HXX : Hid _ := HX3
  clear hb hB3 HX3 HT
  go_wp2
  go_region
  all_goals
   have HX4 : Hid (XP ((w2.alloc (.cells #[.int .i64 tl, .int .i64 to', .bool ti] 215)).setCell ⟨L.gl, i, none⟩ (.int .i64 tl)).drew L s v ks (ls.set i tl) x) := (HXX.out.setL i tl).drew
   have HB4 : Hid (Below L.B w ((w2.alloc (.cells #[.int .i64 tl, .int .i64 to', .bool ti] 215)).setCell ⟨L.gl, i, none⟩ (.int .i64 tl)).drew) := ((HB3.out.mono hBw).setCell (p := ⟨L.gl, i, none⟩) hBl _).drew
   have b1 : ((w2.alloc (.cells #[.int .i64 tl, .int .i64 to', .bool ti] 215)).setCell ⟨L.gl, i, none⟩ (.int .i64 tl)).drew.cell? ⟨w2.heap.size, 1, none⟩ = some (.int .i64 to') := by
    show ((w2.alloc (.cells #[.int .i64 tl, .int .i64 to', .bool ti] 215)).setCell ⟨L.gl, i, none⟩ (.int .i64 tl)).cell? ⟨w2.heap.size, 1, none⟩ = _
    rw [World.cell?_setCell_other _ _ _ _ (by intro e; exact hgl (congrArg Addr.block e))]
    go_simp
   clear a0 a3 al fl
   generalize ((w2.alloc (.cells #[.int .i64 tl, .int .i64 to', .bool ti] 215)).setCell ⟨L.gl, i, none⟩ (.int .i64 tl)).drew = W4 at *
   have a0 : W4.cell? ⟨s, 0, none⟩ = some (.pointer (some ⟨L.lb, 0, none⟩)) := heap_cell HX4.out.wk.cell 0
   have a2 : W4.cell? ⟨L.lb, 2, none⟩ = some (.slice (some ⟨L.gc, 0, none⟩) L.n L.n) := heap_cell HX4.out.ln.cell 2
   have al : W4.cell? ⟨L.gc, i, none⟩ = some (.int .i64 (ks.getD i 0)) := own_icell HX4.out.ln.rc i (by rw [HK.out.1]; exact hi)
   have fl : W4.frozen? ⟨L.gc, i, none⟩ = false := HX4.out.ln.rc.frozen i
   go_wp2
   go_region
   all_goals
    go_wp2
    go_end0
    exact ⟨rfl, HX4.out.drew.setC i to', HB4.out.drew.setCell (p := ⟨L.gc, i, none⟩) hBc _⟩
theorem endW_any (w : World) (B s : Nat) (v lp : Value) (x : XS) (m : Int) (h : WAt w B s v lp x) (ho : XOk m x) (hm : m ≤ 100000) :
  Calls Tryz.prog 200 #[.pointer (some ⟨s, 0, none⟩)] w fun ev w' => ev = .returned (.tuple #[]) ∧ ∃ v', WAt w' B s v' lp (endX x) ∧ FrS w w' s v v' := by
 have h1 := ho.isos
 by_cases hc : 0 < x.isos ∨ x.valid = 0
 ·exact endW_flat w B s v lp x h ⟨h1.1, by omega⟩ hc
 ·have hcn := ho.cnt
  have hl := ho.len
  have hfl := List.length_filter_le (·.i) x.st
  have hv : 1 ≤ x.valid := by omega
  have := endW_deep w B s v lp x h (by omega) (by omega) ⟨hv, by omega⟩ (ho.exIso hv)
  unfold endX
  rw [if_neg (by omega), if_neg (by omega)]
  exact this
set_option maxRecDepth 100000 in
set_option maxHeartbeats 16000000 in
theorem stepW_any (w : World) (L : LP) (s : Nat) (v : Value) (ks ls : List Int) (x : XS) (m : Int) (h : XP w L s v ks ls x) (ho : XOk m x) (hm : m ≤ 1000) (hn : L.n ≤ 1000) (i : Nat) (hi : i < L.n) :
  Calls Tryz.prog 143 #[.pointer (some ⟨s, 0, none⟩), .int .i64 i] w fun ev w' => ev = .returned (.tuple #[]) ∧ ∃ v', XP w' L s v' (ks.set i (ovO (ks.getD i 0) (topE (xPre x (L.cs.getD i 0)).st).o)) (ls.set i (topE (xPre x (L.cs.getD i 0)).st).l) (xPost L.cs i (xPre x (L.cs.getD i 0)) (L.cs.getD i 0)) ∧ Below L.B w w' := by
 have a0 : w.cell? ⟨s, 0, none⟩ = some (.pointer (some ⟨L.lb, 0, none⟩)) := heap_cell h.wk.cell 0
 have a1 : w.cell? ⟨L.lb, 1, none⟩ = some (.slice (some ⟨L.gt, 0, none⟩) L.n L.ct) := heap_cell h.ln.cell 1
 have at' : w.cell? ⟨L.gt, i, none⟩ = some (.int .i64 (L.cs.getD i 0)) := by
  have := h.ln.tb i (by rw [h.ln.len]; exact hi)
  simpa using this
 have hi' : (i : Int) < (L.n : Int) := by omega
 have hop := ho.pre (L.cs.getD i 0)
 have hlen := hop.len
 have htop := hop.top
 have HSet : Hid (∀ W v0 x0 m0, XP W L s v0 ks ls x0 → XOk m0 x0 → Calls Tryz.prog 201 #[.pointer (some ⟨s, 0, none⟩), .int .i64 i] W fun ev w' => ev = .returned (.tuple #[]) ∧ XP w' L s v0 (ks.set i (ovO (ks.getD i 0) (topE x0.st).o)) (ls.set i (topE x0.st).l) x0 ∧ Below L.B W w') :=
  fun W v0 x0 m0 hx h0 => settleW_any W L s v0 ks ls x0 hx h0.ne (by have := h0.len; omega) i hi
 have HX : Hid (XP w L s v ks ls x) := h
 have HO : Hid (XOk m x) := ho
 obtain ⟨ks', hks⟩ : ∃ ks', ks' = ks.set i (ovO (ks.getD i 0) (topE (xPre x (L.cs.getD i 0)).st).o) := ⟨_, rfl⟩
 obtain ⟨ls', hls⟩ : ∃ ls', ls' = ls.set i (topE (xPre x (L.cs.getD i 0)).st).l := ⟨_, rfl⟩
 rw [← hks, ← hls]
 by_cases h21 : L.cs.getD i 0 = 21
 ·rw [h21] at at' hks hls hop ⊢
  have ep : xPost L.cs i (xPre x 21) 21 = xPre x 21 := by simp [xPost]
  rw [ep]
  have HE : Hid (Calls Tryz.prog 200 #[.pointer (some ⟨s, 0, none⟩)] w fun ev w' => ev = .returned (.tuple #[]) ∧ ∃ v', WAt w' L.B s v' (.pointer (some ⟨L.lb, 0, none⟩)) (xPre x 21) ∧ FrS w w' s v v') := endW_any w L.B s v _ x m h.wk ho (by omega)
  have HP : Hid (XOk m (xPre x 21)) := hop
  have HK : Hid (ks' = ks.set i (ovO (ks.getD i 0) (topE (xPre x 21).st).o)) := hks
  have HL : Hid (ls' = ls.set i (topE (xPre x 21).st).l) := hls
  clear h ho hop hks hls h21 hlen htop
  go_enter Tryz.func143, Tryz.ntmps143
  go_wp2_with fail
  refine HE.out.mono ?_
  rintro ev w2 ⟨rfl, v2, hW, hF⟩
  have HX2 : Hid (XP w2 L s v2 ks ls (xPre x 21)) := HX.out.frs hW hF
  have HB2 : Hid (Below L.B w w2) := hF.belowW HX.out.wk (Below.refl _ _)
  clear hW hF HE a0 a1 at'
  go_wp2_with fail
  refine (HSet.out w2 v2 _ m HX2.out HP.out).mono ?_
  rintro ev w3 ⟨rfl, hX3, hB3⟩
  have HX3 : Hid _ := hX3
  have HB3 : Hid _ := hB3
  clear hX3 hB3
  go_wp2_with fail
  refine (embeds_any 21 _).mono ?_
  rintro ev wx ⟨rfl, hx⟩
  subst hx
  rw [show embB 21 = false from rfl]
  go_wp2_with fail
  refine (isolates_any 21 _).mono ?_
  rintro ev wx ⟨rfl, hx⟩
  subst hx
  rw [show isoB 21 = false from rfl]
  go_wp2
  go_end0
  refine ⟨rfl, v2, ?_, HB2.out.trans HB3.out⟩
  rw [HK.out, HL.out]
  exact HX3.out
 ·have q21 : (L.cs.getD i 0 == 21) = false := by simpa using h21
  have epre : xPre x (L.cs.getD i 0) = x := by rw [xPre, if_neg h21]
  rw [epre] at hks hls hop hlen htop ⊢
  have HS : Hid (Calls Tryz.prog 201 #[.pointer (some ⟨s, 0, none⟩), .int .i64 i] w fun ev w' => ev = .returned (.tuple #[]) ∧ XP w' L s v ks' ls' x ∧ Below L.B w w') := by
   rw [hks, hls]
   exact HSet.out w v x m h ho
  have HQ : Hid ((x.st ≠ [] ∧ x.st.length ≤ 1000) ∧ (0 ≤ (topE x.st).l ∧ (topE x.st).l ≤ 1000) ∧ (0 ≤ x.isos ∧ x.isos ≤ 100000) ∧ (0 ≤ x.embs ∧ x.embs ≤ 100000) ∧ 0 ≤ x.valid ∧ x.valid ≤ 100000) := by
   have h1 := ho.isos
   have h2 := ho.embs
   have h3 := ho.cnt
   have h5 := List.length_filter_le (·.i) x.st
   exact ⟨⟨ho.ne, by omega⟩, ⟨htop.2.1, by omega⟩, ⟨h1.1, by omega⟩, ⟨h2.1, by omega⟩, by omega, by omega⟩
  have HLt : Hid (s < w.heap.size) := heap_lt h.wk.cell
  clear h ho hop hks hls hlen htop epre HSet HO
  cases he : embB (L.cs.getD i 0)
  ·cases hiso : isoB (L.cs.getD i 0)
   ·by_cases h17 : L.cs.getD i 0 = 17
    ·have ep : xPost L.cs i x (L.cs.getD i 0) = popX x := by rw [h17]; simp [xPost]
     rw [ep]
     rw [h17] at at'
     clear he hiso q21 h21 h17 ep
     go_enter Tryz.func143, Tryz.ntmps143
     go_wp2_with fail
     refine HS.out.mono ?_
     rintro ev w2 ⟨rfl, hX2, hB2⟩
     have HX2 : Hid _ := hX2
     have HB2 : Hid _ := hB2
     clear hX2 hB2 a0 a1 at'
     go_wp2_with fail
     refine (embeds_any 17 _).mono ?_
     rintro ev wx ⟨rfl, hx⟩
     subst hx
     rw [show embB 17 = false from rfl]
     go_wp2_with fail
     refine (isolates_any 17 _).mono ?_
     rintro ev wx ⟨rfl, hx⟩
     subst hx
     rw [show isoB 17 = false from rfl]
     go_wp2_with fail
     refine (popW_any _ L.B s v _ x HX2.out.wk HQ.out.1.1 HQ.out.1.2 HQ.out.2.2.2.1.2).mono ?_
     rintro ev w3 ⟨rfl, v3, hW3, hF3⟩
     have HX3 : Hid _ := HX2.out.frs hW3 hF3
     have HB3 : Hid _ := hF3.belowW HX2.out.wk HB2.out
     clear hW3 hF3
     go_wp2
     go_end0
     exact ⟨rfl, v3, HX3.out, HB3.out⟩
    ·have ep : xPost L.cs i x (L.cs.getD i 0) = x := by
      have h1 : ¬ (L.cs.getD i 0 = 13 ∨ L.cs.getD i 0 = 14 ∨ L.cs.getD i 0 = 15 ∨ L.cs.getD i 0 = 16) := by
       intro hh
       have : embB (L.cs.getD i 0) = true := by simpa [embB] using hh
       rw [he] at this
       cases this
      have h2 : ¬ L.cs.getD i 0 = 18 ∧ ¬ L.cs.getD i 0 = 19 ∧ ¬ L.cs.getD i 0 = 20 := by
       refine ⟨fun e => ?_, fun e => ?_, fun e => ?_⟩ <;> (rw [e] at hiso; cases hiso)
      rw [xPost, if_neg h1, if_neg h2.1, if_neg h2.2.1, if_neg h2.2.2, if_neg h17]
     rw [ep]
     have q17 : (L.cs.getD i 0 == 17) = false := by simpa using h17
     have HE : Hid (embB (L.cs.getD i 0) = false) := he
     have HI : Hid (isoB (L.cs.getD i 0) = false) := hiso
     clear he hiso h21 h17 ep
     generalize L.cs.getD i 0 = q at *
     go_enter Tryz.func143, Tryz.ntmps143
     go_wp2_with fail
     refine HS.out.mono ?_
     rintro ev w2 ⟨rfl, hX2, hB2⟩
     have HX2 : Hid _ := hX2
     have HB2 : Hid _ := hB2
     clear hX2 hB2 a0 a1 at'
     go_wp2_with fail
     refine (embeds_any q _).mono ?_
     rintro ev wx ⟨rfl, hx⟩
     subst hx
     rw [HE.out]
     go_wp2_with fail
     refine (isolates_any q _).mono ?_
     rintro ev wx ⟨rfl, hx⟩
     subst hx
     rw [HI.out]
     go_wp2
     go_end0
     exact ⟨rfl, v, HX2.out, HB2.out⟩
   ·have hq := isoB_cases hiso
    have ep : xPost L.cs i x (L.cs.getD i 0) = beginX x (if L.cs.getD i 0 = 18 then 0 else if L.cs.getD i 0 = 19 then 1 else fsiOdd L.cs i) := by
     rcases hq with e | e | e <;> rw [e] <;> simp [xPost]
    rw [ep]
    have HSd : Hid (∀ W, LnR W L.lb L.gt L.gm L.n L.ct L.n L.rv (.slice (some ⟨L.gc, 0, none⟩) L.n L.n) (.slice (some ⟨L.gl, 0, none⟩) L.n L.n) L.p L.cs → W.cell? ⟨s, 0, none⟩ = some (.pointer (some ⟨L.lb, 0, none⟩)) → s < W.heap.size → Calls Tryz.prog 205 #[.pointer (some ⟨s, 0, none⟩), .int .i64 i] W fun e w' => e = .returned (.int .i64 (if L.cs.getD i 0 = 18 then 0 else if L.cs.getD i 0 = 19 then 1 else fsiOdd L.cs i)) ∧ Below W.heap.size W w') := fun W hr hc hs => isoSideW_any W s L.lb L.gt L.gm L.n L.ct L.n L.rv _ _ L.p L.cs hr hn hc hs i hi hq
    have HE : Hid (embB (L.cs.getD i 0) = false) := he
    have HI : Hid (isoB (L.cs.getD i 0) = true) := hiso
    clear he hiso h21 ep hq
    generalize (if L.cs.getD i 0 = 18 then (0 : Int) else if L.cs.getD i 0 = 19 then 1 else fsiOdd L.cs i) = d at *
    generalize L.cs.getD i 0 = q at *
    go_enter Tryz.func143, Tryz.ntmps143
    go_wp2_with fail
    refine HS.out.mono ?_
    rintro ev w2 ⟨rfl, hX2, hB2⟩
    have HX2 : Hid (XP w2 L s v ks' ls' x) := hX2
    have HB2 : Hid _ := hB2
    clear hX2 hB2 a0 a1 at'
    go_wp2_with fail
    refine (embeds_any q _).mono ?_
    rintro ev wx ⟨rfl, hx⟩
    subst hx
    rw [HE.out]
    go_wp2_with fail
    refine (isolates_any q _).mono ?_
    rintro ev wx ⟨rfl, hx⟩
    subst hx
    rw [HI.out]
    go_wp2_with fail
    refine (HSd.out _ HX2.out.ln.lnR (heap_cell HX2.out.wk.cell 0) (heap_lt HX2.out.wk.cell)).mono ?_
    rintro ev w3 ⟨rfl, hb3⟩
    have HX3 : Hid (XP w3 L s v ks' ls' x) := HX2.out.below hb3
    have HB3 : Hid (Below L.B w w3) := HB2.out.trans (hb3.mono (Nat.le_trans HX2.out.wk.low (Nat.le_of_lt (heap_lt HX2.out.wk.cell))))
    clear hb3
    go_wp2_with fail
    refine (isolateW_any _ L.B s v _ x d HX3.out.wk HQ.out.1.1 HQ.out.1.2 HQ.out.2.1.1 HQ.out.2.1.2 HQ.out.2.2.1 HQ.out.2.2.2.2).mono ?_
    rintro ev w4 ⟨rfl, v4, hW4, hF4⟩
    have HX4 : Hid _ := HX3.out.frs hW4 hF4
    have HB4 : Hid _ := hF4.belowW HX3.out.wk HB3.out
    clear hW4 hF4
    go_wp2
    go_end0
    exact ⟨rfl, v4, HX4.out, HB4.out⟩
  ·have ep : xPost L.cs i x (L.cs.getD i 0) = embedX x (L.cs.getD i 0) := by
    have : L.cs.getD i 0 = 13 ∨ L.cs.getD i 0 = 14 ∨ L.cs.getD i 0 = 15 ∨ L.cs.getD i 0 = 16 := by simpa [embB] using he
    rw [xPost, if_pos this]
   rw [ep]
   have HE : Hid (embB (L.cs.getD i 0) = true) := he
   clear he h21 ep
   generalize L.cs.getD i 0 = q at *
   go_enter Tryz.func143, Tryz.ntmps143
   go_wp2_with fail
   refine HS.out.mono ?_
   rintro ev w2 ⟨rfl, hX2, hB2⟩
   have HX2 : Hid _ := hX2
   have HB2 : Hid _ := hB2
   clear hX2 hB2 a0 a1 at'
   go_wp2_with fail
   refine (embeds_any q _).mono ?_
   rintro ev wx ⟨rfl, hx⟩
   subst hx
   rw [HE.out]
   go_wp2_with fail
   refine (embW_any _ L.B s v _ x q HE.out HX2.out.wk HQ.out.1.1 HQ.out.1.2 HQ.out.2.1.1 HQ.out.2.1.2 HQ.out.2.2.2.1).mono ?_
   rintro ev w3 ⟨rfl, v3, hW3, hF3⟩
   have HX3 : Hid _ := HX2.out.frs hW3 hF3
   have HB3 : Hid _ := hF3.belowW HX2.out.wk HB2.out
   clear hW3 hF3
   go_wp2
   go_end0
   exact ⟨rfl, v3, HX3.out, HB3.out⟩
end Go.Proofs.YtkbinfhclaafhaaGreatDoor
namespace Go.Proofs.YtkbinfhclaafhaaGreatDoor
open Go.RowKit
def OkO (st : List Ent) : Prop := ∀ e ∈ st, e.o = -1 ∨ 0 ≤ e.o
theorem OkO.app {st : List Ent} {e : Ent} (h : OkO st) (he : e.o = -1 ∨ 0 ≤ e.o) : OkO (st ++ [e]) := fun y hy => by
 rcases List.mem_append.1 hy with hy | hy
 ·exact h y hy
 ·rw [List.mem_singleton.1 hy]; exact he
theorem OkO.sub {st st' : List Ent} (h : OkO st) (hs : ∀ e ∈ st', e ∈ st) : OkO st' := fun e he => h e (hs e he)
theorem popIso_mem (st : List Ent) : ∀ e ∈ popIso st, e ∈ st := by
 intro e he
 unfold popIso at he
 have h1 := List.mem_reverse.1 he
 have h2 : e ∈ st.reverse.dropWhile fun e => !e.i := List.mem_of_mem_drop h1
 have h3 : e ∈ st.reverse := (List.dropWhile_sublist _).mem h2
 exact List.mem_reverse.1 h3
theorem OkO.pre {x : XS} (h : OkO x.st) (c : Int) : OkO (xPre x c).st := by
 unfold xPre
 split
 ·unfold endX
  split
  ·exact h
  ·split
   ·exact h
   ·exact h.sub (popIso_mem _)
 ·exact h
theorem OkO.post {x : XS} (h : OkO x.st) (cs : List Int) (i : Nat) (c : Int) : OkO (xPost cs i x c).st := by
 have hb : ∀ odd, OkO (beginX x odd).st := fun odd => by
  unfold beginX
  simp only
  split
  ·exact h.app (.inl rfl)
  ·exact h
 unfold xPost
 split
 ·have ho : (if c = 15 then (0 : Int) else if c = 16 then 1 else -1) = -1 ∨ 0 ≤ (if c = 15 then (0 : Int) else if c = 16 then 1 else -1) := by
   split
   ·exact .inr (by decide)
   ·split
    ·exact .inr (by decide)
    ·exact .inl rfl
  unfold embedX
  simp only
  generalize (if c = 15 then (0 : Int) else if c = 16 then 1 else -1) = o at *
  generalize nextL (topE x.st).l _ = n
  split
  ·exact h.app ho
  ·split <;> exact h
 ·split
  ·exact hb _
  ·split
   ·exact hb _
   ·split
    ·exact hb _
    ·split
     ·unfold popX
      split
      ·exact h
      ·split
       ·exact h
       ·split
        ·exact h.sub fun e he => List.dropLast_subset _ he
        ·exact h
     ·exact h
theorem xAt_o (cs : List Int) (para : Int) : ∀ i, OkO (xAt cs para i).st
 | 0 => by intro e he; rw [xAt] at he; rw [List.mem_singleton.1 he]; exact .inl rfl
 | i + 1 => by rw [xAt]; exact ((xAt_o cs para i).pre _).post cs i _
theorem topE_mem {st : List Ent} (h : st ≠ []) : topE st ∈ st := by
 unfold topE
 rw [List.getLastD_eq_getLast?, List.getLast?_eq_some_getLast h]
 exact List.getLast_mem h
theorem xTop_o (cs : List Int) (para : Int) (hp : 0 ≤ para ∧ para ≤ 125) (i : Nat) : (xTop cs para i).o = -1 ∨ 0 ≤ (xTop cs para i).o :=
 ((xAt_o cs para i).pre _) _ (topE_mem ((xAt_ok cs para hp i).pre _).ne)
def kP (cs : List Int) (para : Int) : List Int := (List.range cs.length).map fun i => ovO (cs.getD i 0) (xTop cs para i).o
theorem range_getD {α : Type} (n : Nat) (f : Nat → α) (d : α) (j : Nat) (hj : j < n) : ((List.range n).map f).getD j d = f j := by
 rw [List.getD_eq_getElem?_getD, List.getElem?_map, List.getElem?_range hj]; rfl
theorem kP_left {cs : List Int} {para : Int} (hp : 0 ≤ para ∧ para ≤ 125) {i : Nat} (hi : i < cs.length) (hl : leftB (cs.getD i 0) = true) : (kP cs para).getD i 0 = (xKinds cs para).getD i 0 := by
 rw [kP, xKinds, range_getD _ _ _ _ hi, range_getD _ _ _ _ hi, kindOf, ovO]
 rcases xTop_o cs para hp i with h | h
 ·rw [if_pos h, if_neg (by omega)]
 ·rw [if_neg (by omega), if_pos ⟨hl, h⟩]
def KTo (n k : Nat) (l : List Int) (f g : Nat → Int) : Prop := l.length = n ∧ ∀ j, j < n → l.getD j 0 = if j < k then f j else g j
theorem KTo.step {n k : Nat} {l : List Int} {f g : Nat → Int} (h : KTo n k l f g) (hk : k < n) : KTo n (k + 1) (l.set k (f k)) f g := by
 refine ⟨by rw [List.length_set]; exact h.1, fun j hj => ?_⟩
 by_cases hjk : j = k
 ·subst hjk
  rw [getD_set_self (by rw [h.1]; exact hk), if_pos (by omega)]
 ·rw [getD_set_ne (fun e => hjk e.symm), h.2 j hj]
  by_cases h' : j < k
  ·rw [if_pos h', if_pos (by omega)]
  ·rw [if_neg h', if_neg (by omega)]
theorem KTo.done {n : Nat} {l : List Int} {f g : Nat → Int} (h : KTo n n l f g) : l = (List.range n).map f := by
 apply List.ext_getElem?
 intro j
 rcases Nat.lt_or_ge j n with hj | hj
 ·have := h.2 j hj
  rw [if_pos hj, List.getD_eq_getElem?_getD, List.getElem?_eq_getElem (by rw [h.1]; exact hj)] at this
  rw [List.getElem?_eq_getElem (by rw [h.1]; exact hj), List.getElem?_map, List.getElem?_range hj]
  exact congrArg some this
 ·rw [List.getElem?_eq_none (by rw [h.1]; exact hj), List.getElem?_eq_none (by simp; exact hj)]
end Go.Proofs.YtkbinfhclaafhaaGreatDoor
namespace Go.Proofs.YtkbinfhclaafhaaGreatDoor
open Go.RowKit
theorem xLeftW_at {cs : List Int} {k : Nat} (hk : k < cs.length) : (xLeft cs).getD k false = leftB (cs.getD k 0) := by
 rw [xLeft, List.getD_eq_getElem?_getD, List.getElem?_map, List.getD_eq_getElem?_getD, List.getElem?_eq_getElem hk]; rfl
section
variable {w : World} {L : LP} {ks ls : List Int}
theorem LX.ct (h : LX w L ks ls) (k : Nat) (hk : k < L.n) : w.cell? ⟨L.gt, k, none⟩ = some (.int .i64 (L.cs.getD k 0)) := by
 have := h.tb k (by rw [h.len]; exact hk)
 simpa using this
theorem LX.cm (h : LX w L ks ls) (k : Nat) (hk : k < L.n) : w.cell? ⟨L.gm, k, none⟩ = some (.int .i64 ((matchL L.cs).getD k 0)) := by
 have := h.ms k (by rw [matchL_length, h.len]; exact hk)
 simpa using this
theorem LX.kl (h : LX w L ks ls) : ks.length = L.n ∧ ls.length = L.n := ⟨by have := h.rc.1; simpa [iv] using this, by have := h.rl.1; simpa [iv] using this⟩
theorem LX.cl (h : LX w L ks ls) (k : Nat) (hk : k < L.n) : w.cell? ⟨L.gl, k, none⟩ = some (.int .i64 (ls.getD k 0)) := own_icell h.rl k (by rw [h.kl.2]; exact hk)
theorem LX.ck (h : LX w L ks ls) (k : Nat) (hk : k < L.n) : w.cell? ⟨L.gc, k, none⟩ = some (.int .i64 (ks.getD k 0)) := own_icell h.rc k (by rw [h.kl.1]; exact hk)
theorem LX.f1 (h : LX w L ks ls) : w.cell? ⟨L.lb, 1, none⟩ = some (.slice (some ⟨L.gt, 0, none⟩) L.n L.ct) := heap_cell h.cell 1
theorem LX.f2 (h : LX w L ks ls) : w.cell? ⟨L.lb, 2, none⟩ = some (.slice (some ⟨L.gc, 0, none⟩) L.n L.n) := heap_cell h.cell 2
theorem LX.f3 (h : LX w L ks ls) : w.cell? ⟨L.lb, 3, none⟩ = some (.slice (some ⟨L.gl, 0, none⟩) L.n L.n) := heap_cell h.cell 3
theorem LX.f4 (h : LX w L ks ls) : w.cell? ⟨L.lb, 4, none⟩ = some (.slice (some ⟨L.gm, 0, none⟩) L.n L.n) := heap_cell h.cell 4
theorem LX.f5 (h : LX w L ks ls) : w.cell? ⟨L.lb, 5, none⟩ = some (.int .i64 L.p) := heap_cell h.cell 5
end
set_option maxRecDepth 100000 in
set_option maxHeartbeats 2000000 in
theorem goesOn_any (w : World) (L : LP) (ks ls : List Int) (h : LX w L ks ls) (f : Nat) (hf : f < L.n) :
  Calls Tryz.prog 157 #[.pointer (some ⟨L.lb, 0, none⟩), .int .i64 f] w fun e w' => e = .returned (.bool (L.cs.getD f 0 == 21 && decide (0 ≤ opener L.cs f))) ∧ w' = w := by
 have a1 := h.f1
 have a4 := h.f4
 have at' := h.ct f hf
 have am := h.cm f hf
 have hf' : (f : Int) < (L.n : Int) := by omega
 have hp : L.cs.getD f 0 = 21 → ((matchL L.cs).getD f 0 ≠ -1 ↔ 0 ≤ opener L.cs f) := fun e => matchL_pdi (by rw [h.len]; exact hf) e
 generalize opener L.cs f = o at *
 generalize L.cs.getD f 0 = c at *
 generalize (matchL L.cs).getD f 0 = m at *
 clear h
 by_cases h21 : c = 21
 ·subst h21
  have hm : (m != -1) = decide (0 ≤ o) := by
   have := hp rfl
   by_cases e : m = -1
   ·have : ¬ 0 ≤ o := fun h => this.2 h e
    simp [e, this]
   ·have : 0 ≤ o := this.1 e
    simp [e, this]
  have HM : Hid ((m != -1) = decide (0 ≤ o)) := hm
  clear hp hm
  generalize hb : decide (0 ≤ o) = b at *
  clear hb
  cases hq : (m != -1)
  all_goals
   go_enter Tryz.func157, Tryz.ntmps157
   go_wp2
   go_ret
   exact ⟨ret_bool (by rw [← HM.out, hq]; rfl), rfl⟩
 ·have q : (c == 21) = false := by simpa using h21
  clear hp
  go_enter Tryz.func157, Tryz.ntmps157
  go_wp2
  go_ret
  exact ⟨ret_bool (by rw [q]; rfl), rfl⟩
def nbP (cs : List Int) (last : Nat) : Int := if isoB (cs.getD last 0) = true then (if mt cs last < cs.length then (mt cs last : Int) else -1) else -1
set_option maxRecDepth 100000 in
set_option maxHeartbeats 2000000 in
theorem nextBeg_any (w : World) (L : LP) (ks ls : List Int) (h : LX w L ks ls) (f : Nat) (hf : f < L.n) :
  Calls Tryz.prog 156 #[.pointer (some ⟨L.lb, 0, none⟩), .int .i64 f] w fun e w' => e = .returned (.int .i64 (nbP L.cs f)) ∧ w' = w := by
 have a1 := h.f1
 have a4 := h.f4
 have at' := h.ct f hf
 have am := h.cm f hf
 have hf' : (f : Int) < (L.n : Int) := by omega
 have hp : isoB (L.cs.getD f 0) = true → (matchL L.cs).getD f 0 = nbP L.cs f := fun e => by rw [nbP, if_pos e, matchL_iso (by rw [h.len]; exact hf) e]
 have hq : isoB (L.cs.getD f 0) = false → nbP L.cs f = -1 := fun e => by rw [nbP, if_neg (by rw [e]; decide)]
 generalize nbP L.cs f = o at *
 generalize L.cs.getD f 0 = c at *
 generalize (matchL L.cs).getD f 0 = m at *
 clear h
 cases hi : isoB c
 ·have := hq hi
  subst this
  have HI : Hid (isoB c = false) := hi
  clear hp hq hi
  go_enter Tryz.func156, Tryz.ntmps156
  go_wp2_with fail
  refine (isolates_any c _).mono ?_
  rintro ev wx ⟨rfl, hx⟩
  have hx' := hx.symm
  subst hx'
  rw [HI.out]
  go_wp2
  go_ret
  exact ⟨rfl, rfl⟩
 ·have := hp hi
  subst this
  have HI : Hid (isoB c = true) := hi
  clear hp hq hi
  go_enter Tryz.func156, Tryz.ntmps156
  go_wp2_with fail
  refine (isolates_any c _).mono ?_
  rintro ev wx ⟨rfl, hx⟩
  have hx' := hx.symm
  subst hx'
  rw [HI.out]
  go_wp2
  go_ret
  exact ⟨rfl, rfl⟩
set_option maxRecDepth 100000 in
set_option maxHeartbeats 4000000 in
theorem ahead_any (w : World) (L : LP) (ks ls : List Int) (h : LX w L ks ls) (hn : L.n ≤ 1000) (f : Nat) (hf : f < L.n) :
  Calls Tryz.prog 219 #[.pointer (some ⟨L.lb, 0, none⟩), .int .i64 f] w fun e w' => e = .returned (.int .i64 (befF ls (xLeft L.cs) L.p f)) ∧ w' = w := by
 have a1 := h.f1
 have a3 := h.f3
 have a5 := h.f5
 have HT : Hid (∀ k : Nat, k < L.n → w.cell? ⟨L.gt, k, none⟩ = some (.int .i64 (L.cs.getD k 0)) ∧ w.cell? ⟨L.gl, k, none⟩ = some (.int .i64 (ls.getD k 0)) ∧ (xLeft L.cs).getD k false = leftB (L.cs.getD k 0)) := fun k hk => ⟨h.ct k hk, h.cl k hk, xLeftW_at (by rw [h.len]; exact hk)⟩
 obtain ⟨P, hP⟩ : ∃ P, P = befF ls (xLeft L.cs) L.p f := ⟨_, rfl⟩
 rw [← hP]
 have HP : Hid (befF ls (xLeft L.cs) L.p f = P) := hP.symm
 clear h hP
 go_enter Tryz.func219, Tryz.ntmps219
 go_wp2
 go_loopg [5] f (fun gh kv W => ∃ k : Nat, k ≤ f ∧ gh = k ∧ kv = .int .i64 ((k : Int) - 1) ∧ W = w ∧ befF ls (xLeft L.cs) L.p k = P)
 case atStart => exact ⟨f, Nat.le_refl _, rfl, rfl, rfl, HP.out⟩
 case round =>
  obtain ⟨k, hk, rfl, rfl, hW, hp⟩ := hrel
  have hW' := hW.symm
  subst hW'
  clear HP
  cases gk with
  | zero =>
   have hp0 : L.p = P := hp
   subst hp0
   go_wp2
   go_ret
   exact ⟨rfl, rfl⟩
  | succ k =>
   have hkn : k < L.n := by omega
   obtain ⟨b1, b2, b3⟩ := HT.out k hkn
   have e1 : ((k + 1 : Nat) : Int) - 1 = (k : Int) := by omega
   rw [e1]
   rw [befF, b3] at hp
   have hk' : (k : Int) < (L.n : Int) := by omega
   have hk0 : (0 : Int) ≤ (k : Int) := by omega
   generalize L.cs.getD k 0 = c at *
   cases hl : leftB c
   ·rw [hl, if_neg (by decide)] at hp
    have HL : Hid ((!leftB c) = true) := by show _ = _; rw [hl]; rfl
    have HP : Hid (befF ls (xLeft L.cs) L.p k = P) := hp
    clear hp hl b3
    go_wp2_with fail
    refine (takenOut_any c _).mono ?_
    rintro ev wx ⟨rfl, hx⟩
    subst hx
    rw [HL.out]
    go_wp2
    go_roundg k
    case measure => omega
    case rel => exact ⟨k, by omega, rfl, by go_num, rfl, HP.out⟩
   ·rw [hl, if_pos rfl] at hp
    have HL : Hid ((!leftB c) = false) := by show _ = _; rw [hl]; rfl
    have HP : Hid (ls.getD k 0 = P) := hp
    clear hp hl b3
    go_wp2_with fail
    refine (takenOut_any c _).mono ?_
    rintro ev wx ⟨rfl, hx⟩
    subst hx
    rw [HL.out]
    go_wp2
    go_ret
    exact ⟨ret_int HP.out, rfl⟩
set_option maxRecDepth 100000 in
set_option maxHeartbeats 4000000 in
theorem behind_any (w : World) (L : LP) (ks ls : List Int) (h : LX w L ks ls) (hn : L.n ≤ 1000) (f : Nat) (hf : f < L.n) :
  Calls Tryz.prog 220 #[.pointer (some ⟨L.lb, 0, none⟩), .int .i64 f] w fun e w' => e = .returned (.int .i64 (behS L.cs ls (xLeft L.cs) L.p f)) ∧ w' = w := by
 have a1 := h.f1
 have a3 := h.f3
 have a4 := h.f4
 have a5 := h.f5
 have am := h.cm f hf
 have at' := h.ct f hf
 have hf' : (f : Int) < (L.n : Int) := by omega
 have HT : Hid (∀ k : Nat, k < L.n → w.cell? ⟨L.gt, k, none⟩ = some (.int .i64 (L.cs.getD k 0)) ∧ w.cell? ⟨L.gl, k, none⟩ = some (.int .i64 (ls.getD k 0)) ∧ (xLeft L.cs).getD k false = leftB (L.cs.getD k 0)) := fun k hk => ⟨h.ct k hk, h.cl k hk, xLeftW_at (by rw [h.len]; exact hk)⟩
 have hc : isoB (L.cs.getD f 0) = true → ((matchL L.cs).getD f 0 = -1 ↔ mt L.cs f = L.cs.length) := fun e => by
  rw [matchL_iso (by rw [h.len]; exact hf) e]
  have := mt_le L.cs f (by rw [h.len]; omega)
  by_cases hm : mt L.cs f < L.cs.length
  ·rw [if_pos hm]; omega
  ·rw [if_neg hm]; simp; omega
 have hlen := h.len
 unfold behS
 rw [hlen] at hc ⊢
 clear h hlen
 generalize (matchL L.cs).getD f 0 = m at *
 by_cases hx : isoB (L.cs.getD f 0) = true ∧ mt L.cs f = L.n
 ·rw [if_pos hx]
  have hm : m = -1 := (hc hx.1).2 hx.2
  subst hm
  have HI : Hid (isoB (L.cs.getD f 0) = true) := hx.1
  clear hc hx
  generalize L.cs.getD f 0 = c at *
  go_enter Tryz.func220, Tryz.ntmps220
  go_wp2_with fail
  refine (isolates_any c _).mono ?_
  rintro ev wx ⟨rfl, hx⟩
  have hx' := hx.symm
  subst hx'
  rw [HI.out]
  go_wp2
  go_ret
  exact ⟨rfl, rfl⟩
 ·rw [if_neg hx]
  obtain ⟨P, hP⟩ : ∃ P, P = behF ls (xLeft L.cs) L.p L.n (L.n - (f + 1)) := ⟨_, rfl⟩
  rw [← hP]
  have HP : Hid (behF ls (xLeft L.cs) L.p L.n (L.n - (f + 1)) = P) := hP.symm
  clear hP
  have HQ : Hid (isoB (L.cs.getD f 0) = true → (m == -1) = false) := fun e => by
   have := hc e
   simp only [beq_eq_false_iff_ne]
   intro e2
   exact hx ⟨e, this.1 e2⟩
  clear hc hx
  generalize L.cs.getD f 0 = c at *
  go_enter Tryz.func220, Tryz.ntmps220
  go_wp2_with fail
  refine (isolates_any c _).mono ?_
  rintro ev wx ⟨rfl, hx⟩
  have hx' := hx.symm
  subst hx'
  cases hi : isoB c
  case false =>
   clear hi HQ
   go_wp2
   clear at' am
   go_loopg [5] (L.n - (f + 1)) (fun gh kv W => ∃ k : Nat, f + 1 ≤ k ∧ k ≤ L.n ∧ gh = L.n - k ∧ kv = .int .i64 k ∧ W = w ∧ behF ls (xLeft L.cs) L.p L.n gh = P)
   case atStart => exact ⟨f + 1, Nat.le_refl _, by omega, rfl, by go_num, rfl, HP.out⟩
   case round =>
    obtain ⟨k, hfk, hk, rfl, rfl, hW, hp⟩ := hrel
    have hW' := hW.symm
    subst hW'
    clear HP
    by_cases hlt : k < L.n
    ·obtain ⟨b1, b2, b3⟩ := HT.out k hlt
     obtain ⟨g2, hg2⟩ : ∃ g2, L.n - k = g2 + 1 := ⟨L.n - k - 1, by omega⟩
     rw [hg2, behF, show L.n - (g2 + 1) = k by omega, b3] at hp
     have hk' : (k : Int) < (L.n : Int) := by omega
     generalize L.cs.getD k 0 = c2 at *
     cases hl : leftB c2
     ·rw [hl, if_neg (by decide)] at hp
      have HL : Hid ((!leftB c2) = true) := by show _ = _; rw [hl]; rfl
      have HP : Hid (behF ls (xLeft L.cs) L.p L.n (L.n - (k + 1)) = P) := by show _ = _; rw [show L.n - (k + 1) = g2 by omega]; exact hp
      clear hp hl b3 hg2
      go_wp2_with fail
      refine (takenOut_any c2 _).mono ?_
      rintro ev wx ⟨rfl, hx⟩
      subst hx
      rw [HL.out]
      go_wp2
      go_roundg (L.n - (k + 1))
      case measure => omega
      case rel => exact ⟨k + 1, by omega, by omega, rfl, by go_num, rfl, HP.out⟩
     ·rw [hl, if_pos rfl] at hp
      have HL : Hid ((!leftB c2) = false) := by show _ = _; rw [hl]; rfl
      have HP : Hid (ls.getD k 0 = P) := hp
      clear hp hl b3 hg2
      go_wp2_with fail
      refine (takenOut_any c2 _).mono ?_
      rintro ev wx ⟨rfl, hx⟩
      subst hx
      rw [HL.out]
      go_wp2
      go_ret
      exact ⟨ret_int HP.out, rfl⟩
    ·have hz : L.n - k = 0 := by omega
     rw [hz] at hp
     have hp0 : L.p = P := hp
     subst hp0
     have hlt' : ¬ (k : Int) < (L.n : Int) := by omega
     go_wp2
     go_ret
     exact ⟨rfl, rfl⟩
  case true =>
   have hm := HQ.out hi
   clear hi HQ
   go_wp2
   clear at' am
   go_loopg [5] (L.n - (f + 1)) (fun gh kv W => ∃ k : Nat, f + 1 ≤ k ∧ k ≤ L.n ∧ gh = L.n - k ∧ kv = .int .i64 k ∧ W = w ∧ behF ls (xLeft L.cs) L.p L.n gh = P)
   case atStart => exact ⟨f + 1, Nat.le_refl _, by omega, rfl, by go_num, rfl, HP.out⟩
   case round =>
    obtain ⟨k, hfk, hk, rfl, rfl, hW, hp⟩ := hrel
    have hW' := hW.symm
    subst hW'
    clear HP
    by_cases hlt : k < L.n
    ·obtain ⟨b1, b2, b3⟩ := HT.out k hlt
     obtain ⟨g2, hg2⟩ : ∃ g2, L.n - k = g2 + 1 := ⟨L.n - k - 1, by omega⟩
     rw [hg2, behF, show L.n - (g2 + 1) = k by omega, b3] at hp
     have hk' : (k : Int) < (L.n : Int) := by omega
     generalize L.cs.getD k 0 = c2 at *
     cases hl : leftB c2
     ·rw [hl, if_neg (by decide)] at hp
      have HL : Hid ((!leftB c2) = true) := by show _ = _; rw [hl]; rfl
      have HP : Hid (behF ls (xLeft L.cs) L.p L.n (L.n - (k + 1)) = P) := by show _ = _; rw [show L.n - (k + 1) = g2 by omega]; exact hp
      clear hp hl b3 hg2
      go_wp2_with fail
      refine (takenOut_any c2 _).mono ?_
      rintro ev wx ⟨rfl, hx⟩
      subst hx
      rw [HL.out]
      go_wp2
      go_roundg (L.n - (k + 1))
      case measure => omega
      case rel => exact ⟨k + 1, by omega, by omega, rfl, by go_num, rfl, HP.out⟩
     ·rw [hl, if_pos rfl] at hp
      have HL : Hid ((!leftB c2) = false) := by show _ = _; rw [hl]; rfl
      have HP : Hid (ls.getD k 0 = P) := hp
      clear hp hl b3 hg2
      go_wp2_with fail
      refine (takenOut_any c2 _).mono ?_
      rintro ev wx ⟨rfl, hx⟩
      subst hx
      rw [HL.out]
      go_wp2
      go_ret
      exact ⟨ret_int HP.out, rfl⟩
    ·have hz : L.n - k = 0 := by omega
     rw [hz] at hp
     have hp0 : L.p = P := hp
     subst hp0
     have hlt' : ¬ (k : Int) < (L.n : Int) := by omega
     go_wp2
     go_ret
     exact ⟨rfl, rfl⟩
end Go.Proofs.YtkbinfhclaafhaaGreatDoor
