import Derived.Test.YtkbinfhclaafhaaGreatDoorM16
import Derived.Test.YtkbinfhclaafhaaGreatDoorM21
import Derived.Deep.DeepCutAuto
import Derived.Test.YtkbinfhclaafhaaGreatDoorM19
namespace Go.Proofs.YtkbinfhclaafhaaGreatDoor
open Go.RowKit
theorem Tryz.sizeInt : (Tryz.prog.info? 3).map (·.size) = some 1 := by kernel_rfl
def FillTo (para : Int) (cs o o' : List Int) (k : Nat) : Prop := o'.length = cs.length ∧ (∀ j, j < cs.length → leftB (cs.getD j 0) = true → o'.getD j 0 = o.getD j 0) ∧ (0 < k → leftB (cs.getD 0 0) = false → o'.getD 0 0 = para)
theorem FillTo.keep {para : Int} {cs o o' : List Int} {k : Nat} (h : FillTo para cs o o' k) (hl : leftB (cs.getD k 0) = true) : FillTo para cs o o' (k + 1) :=
 ⟨h.1, h.2.1, fun _ h0 => by
  rcases Nat.eq_zero_or_pos k with hk | hk
  ·subst hk; rw [hl] at h0; cases h0
  ·exact h.2.2 hk h0⟩
theorem FillTo.set {para v : Int} {cs o o' : List Int} {k : Nat} (h : FillTo para cs o o' k) (hk : k < cs.length) (hl : leftB (cs.getD k 0) = false) (hv : k = 0 → v = para) : FillTo para cs o (o'.set k v) (k + 1) := by
 refine ⟨by simp [h.1], ?_, ?_⟩
 ·intro j hj hjl
  rw [getD_set_ne (by rintro rfl; rw [hl] at hjl; cases hjl)]
  exact h.2.1 j hj hjl
 ·intro _ h0
  rcases Nat.eq_zero_or_pos k with h' | h'
  ·subst h'
   rw [getD_set_self (by rw [h.1]; exact hk), hv rfl]
  ·rw [getD_set_ne (by omega)]; exact h.2.2 h' h0
theorem own_base {w : World} {B B' g n c : Nat} {e : TypeId} {z : Nat} {xs : List Value} (h : w.ownsRow B e z (.slice (some ⟨g, 0, none⟩) n c) n xs) (hb : B' ≤ g) : w.ownsRow B' e z (.slice (some ⟨g, 0, none⟩) n c) n xs := by
 refine ⟨h.1, ?_⟩
 rcases h.2 with ⟨h, _⟩ | ⟨g', cap', cur, e1, h3, h4⟩
 ·cases h
 ·cases e1
  exact .inr ⟨g, c, cur, rfl, hb, h4⟩
theorem sqV_at : ∀ (avs : List Value) (ss : List Sq) (j : Nat), avs.length = ss.length → j < ss.length → (sqV avs ss)[j * 4]? = some (avs.getD j .nilFunc) ∧ (sqV avs ss)[j * 4 + 1]? = some (.int .i64 (ss.getD j ⟨[], 0, 0, 0⟩).level) ∧ (sqV avs ss)[j * 4 + 2]? = some (.int .i64 (ss.getD j ⟨[], 0, 0, 0⟩).sos) ∧ (sqV avs ss)[j * 4 + 3]? = some (.int .i64 (ss.getD j ⟨[], 0, 0, 0⟩).eos)
 | [], [], j, _, h => by simp at h
 | a :: avs, s :: ss, 0, _, _ => by simp [sqV]
 | a :: avs, s :: ss, j + 1, h, hj => by
  have ih := sqV_at avs ss j (by simpa using h) (by simpa using hj)
  rw [sqV, show (j + 1) * 4 = j * 4 + 4 by omega]
  simpa using ih
theorem runs_few (lv : List Int) (lf : List Bool) : (runsL lv lf).length ≤ lv.length := by
 have h1 := congrArg List.length (runsL_ok lv lf).1
 have h2 := List.length_filter_le (isL lf) (List.range lv.length)
 rw [List.length_range] at h2
 have h3 : ∀ l : List (List Nat), (∀ r ∈ l, r ≠ []) → l.length ≤ l.flatten.length := by
  intro l
  induction l with
  | nil => intro _; simp
  | cons a l ih =>
   intro hl'
   have := ih (fun r hr => hl' r (by simp [hr]))
   have := List.length_pos_iff.2 (hl' a (by simp))
   simp only [List.length_cons, List.flatten_cons, List.length_append]
   omega
 have h4 := h3 _ (runsL_ok lv lf).2.1
 omega
set_option maxRecDepth 100000 in
set_option maxHeartbeats 16000000 in
theorem levels_row (rs : List Int) (d : Int) (n b off cap : Nat) (w : World) (hl : rs.length = n) (hn : n ≤ 1000) (hn0 : 0 < n) (hc : IntsAt w b off rs) (hb : b < w.heap.size) :
  Calls Tryz.prog 48 #[.slice (some ⟨b, off, none⟩) n cap, .int .i64 d] w fun ev w' => ∃ g c, ev = .returned (.slice (some ⟨g, 0, none⟩) n c) ∧ w'.ownsRow w.heap.size 3 1 (.slice (some ⟨g, 0, none⟩) n c) n (iv (levelsL rs (rs.map cls) d)) ∧ Below w.heap.size w w' := by
 have hmk := run_make_row' (P := Tryz.prog) 31 3 (.int .i64 0) 8 Tryz.underlying31 Tryz.infoI8 rfl .i64 .i64 n (by omega) (by omega)
 obtain ⟨cs, hcs⟩ : ∃ cs, cs = rs.map cls := ⟨_, rfl⟩
 have HCl : Hid (Calls Tryz.prog 46 #[.slice (some ⟨b, off, none⟩) n cap] w fun e w' => ∃ v, e = .returned v ∧ w'.ownsRow w.heap.size 3 1 v n (iv cs) ∧ Below w.heap.size w w') := by rw [hcs]; exact classes_row rs b off cap n w hl hn hc
 rw [← hcs]
 have hcl : cs.length = n := by rw [hcs, List.length_map, hl]
 obtain ⟨para, hpara⟩ : ∃ para, para = paraL cs d := ⟨_, rfl⟩
 have HPara : Hid (para = paraL cs d) := hpara
 have hp01 : para = 0 ∨ para = 1 := by rw [hpara]; exact paraL_01 cs d
 obtain ⟨LV, hLV⟩ : ∃ LV, LV = levelsL rs cs d := ⟨_, rfl⟩
 rw [← hLV]
 have HQ : Hid (LV = finL para para cs (((seqsL cs (xLevels cs para) (xLeft cs) para).flatMap (seqTrip rs (xKinds cs para))).foldl setF (xLevels cs para))) := by show _ = _; rw [hLV, hpara]; rfl
 have HL : Hid (rs.length = n ∧ cs.length = n) := ⟨hl, hcl⟩
 have HI : Hid (IntsAt w b off rs ∧ b < w.heap.size) := ⟨hc, hb⟩
 clear hl hc hb hcs hcl hpara hLV
 go_enter Tryz.func48, Tryz.ntmps48
 go_wp2_with fail
 refine HCl.out.mono ?_
 rintro ev w1 ⟨cv, rfl, hcrow, hb1⟩
 obtain ⟨gc, cc, rfl, hccap, hgc, hgcB⟩ := own_some hcrow hn0
 have HC1 : Hid (w1.ownsRow w.heap.size 3 1 (.slice (some ⟨gc, 0, none⟩) n cc) n (iv cs)) := hcrow
 have HB1 : Hid (Below w.heap.size w w1) := hb1
 have HG1 : Hid (gc < w1.heap.size ∧ w.heap.size ≤ gc ∧ n ≤ cc) := ⟨hgc, hgcB, hccap⟩
 have HFd : Hid (Calls Tryz.prog 70 #[.slice (some ⟨gc, 0, none⟩) n cc] w1 fun e w' => e = .returned (.int .i64 (found cs)) ∧ w' = w1) := found_row cs gc 0 cc n w1 HL.out.2 (by omega) (own_ints hcrow)
 clear hcrow hb1 hccap hgc hgcB HCl
 have h3 : ((d != 0) = false ∧ para = d) ∨ ((d != 0) = true ∧ (d != 1) = false ∧ para = d) ∨ ((d != 0) = true ∧ (d != 1) = true ∧ para = found cs) := by
  rw [HPara.out, paraL]
  by_cases h0 : d = 0
  ·exact .inl ⟨by simpa using h0, by rw [if_pos (.inl h0)]⟩
  ·by_cases h1 : d = 1
   ·exact .inr (.inl ⟨by simpa using h0, by simpa using h1, by rw [if_pos (.inr h1)]⟩)
   ·exact .inr (.inr ⟨by simpa using h0, by simpa using h1, by rw [if_neg (by omega)]⟩)
 rcases h3 with ⟨q0, hd⟩ | ⟨q0, q1, hd⟩ | ⟨q0, q1, hd⟩
 subst hd
 clear HFd
 go_wp2_with fail
 rotate_left
 subst hd
 clear HFd
 go_wp2_with fail
 rotate_left
 have HV : Hid (found cs = para) := hd.symm
 clear hd
 go_wp2_with fail
 refine HFd.out.mono ?_
 rintro ev wx ⟨rfl, hx⟩
 have hx' := hx.symm
 subst hx'
 rw [HV.out]
 clear HFd HV
 go_wp2_with fail
 all_goals
  refine (explicit_row cs para gc 0 cc n w1 HL.out.2 (by omega) HG1.out.2.2 (own_ints HC1.out) HG1.out.1 (by omega)).mono ?_
  rintro ev w2 ⟨g1, g2, g3, rfl, hb2, hR1, hR2, hR3⟩
  have hz2 : w1.heap.size ≤ w2.heap.size := hb2.size
  have hg1 := hR1.ge
  have hg2 := hR2.ge
  have hg3 := hR3.ge
  obtain ⟨W3, hW3⟩ : ∃ W3, W3 = w2.alloc (.cells (madeCells #[.int .i64 0] n) 3) := ⟨_, rfl⟩
  have hb3 : Below w2.heap.size w2 W3 := by rw [hW3]; exact (Below.refl _ _).alloc (Nat.le_refl _) _
  have hO3 : RowAt W3 w2.heap.size 3 w2.heap.size n (List.replicate n (.int .i64 0)) := by rw [hW3]; exact RowAt.made (Nat.le_refl _) (by omega)
  have hR1' := hR1.keep hb3 hg1.2
  have hlv : (xLevels cs para).length = n := by rw [xLevels_length]; exact HL.out.2
  have HZ : Hid (w1.heap.size ≤ w2.heap.size ∧ Below w1.heap.size w1 w2 ∧ g1 < w2.heap.size ∧ g2 < w2.heap.size ∧ g3 < w2.heap.size ∧ Below w2.heap.size w2 W3 ∧ w2.heap.size < W3.heap.size) := ⟨hz2, hb2, hg1.2, hg2.2, hg3.2, hb3, by rw [hW3]; simp⟩
  have HR : Hid (RowAt w2 w1.heap.size 3 g1 n (iv (xLevels cs para)) ∧ RowAt w2 w1.heap.size 3 g2 n (iv (xKinds cs para)) ∧ RowAt w2 w1.heap.size 4 g3 n (bv (xLeft cs))) := ⟨hR1, hR2, hR3⟩
  have hh3 := hO3.heap
  have HLv : Hid ((∀ l ∈ xLevels cs para, 0 ≤ l ∧ l ≤ 125) ∧ (xLevels cs para).length = n) := ⟨xLevels_ok cs para (by omega), hlv⟩
  have HS1 : Hid (∀ s ∈ seqsL cs (xLevels cs para) (xLeft cs) para, 0 < s.at'.length ∧ s.at'.length ≤ cs.length ∧ (∀ p ∈ s.at', p < cs.length) ∧ 0 ≤ s.level ∧ s.level ≤ 125) := seqs_ok (by rw [xLevels_length]) HLv.out.1
  have hcel : ∀ j v, (iv (xLevels cs para))[j]? = some v → W3.cell? ⟨g1, j, none⟩ = some v := fun j v hj => by
   have hj' : j < n := by have := (List.getElem?_eq_some_iff.1 hj).1; rw [iv_length, hlv] at this; exact this
   rw [hR1'.cell j hj']; exact hj
  have HI1 : Hid (Below w.heap.size w w2) := HB1.out.trans (hb2.mono HB1.out.size)
  obtain ⟨lvs, hlvs⟩ : ∃ lvs, lvs = xLevels cs para := ⟨_, rfl⟩
  have HLV : Hid (lvs = xLevels cs para) := hlvs
  rw [← hlvs] at hcel hlv
  clear hR1 hR2 hR3 hb2 hR1' hO3 hlvs hg1 hg2 hg3
  have hh3' : (w2.alloc (.cells (madeCells #[.int .i64 0] n) 3)).heap[w2.heap.size]? = some (.cells (List.replicate n (.int .i64 0)).toArray 3 (0, 0)) := by rw [← hW3]; exact hh3
  have hcel' : ∀ j v, (iv lvs)[j]? = some v → (w2.alloc (.cells (madeCells #[.int .i64 0] n) 3)).cell? ((⟨g1, 0, none⟩ : Addr).add j) = some v := fun j v hj => by
   have := hcel j v hj
   rw [← hW3]
   simp only [Addr.add]
   split
   ·rename_i h0; subst h0; exact this
   ·simpa using this
  have HW3 : Hid (W3 = w2.alloc (.cells (madeCells #[.int .i64 0] n) 3)) := hW3
  have HLvn : Hid (lvs.length = n) := hlv
  clear hh3 hcel hlv hW3
  have hcopy := run_copy_row (P := Tryz.prog) (w2.alloc (.cells (madeCells #[.int .i64 0] n) 3)) 31 31 3 3 w2.heap.size 0 n n ⟨g1, 0, none⟩ n n (List.replicate n (.int .i64 0)).toArray 3 (iv lvs) Tryz.underlying31 Tryz.sizeInt hh3' (by rw [iv_length, HLvn.out]; exact (Nat.min_self n).symm) hcel' (by rw [iv_length, HLvn.out]; simp) (fun v hv => by simp only [iv, List.mem_map] at hv; obtain ⟨q, _, rfl⟩ := hv; rfl)
  have HG4 : Hid ((((w2.alloc (.cells (madeCells #[.int .i64 0] n) 3)).setRow w2.heap.size ((List.replicate n (Value.int .i64 0)).toArray.toList.take 0 ++ iv lvs ++ (List.replicate n (Value.int .i64 0)).toArray.toList.drop (0 + (iv lvs).length)).toArray)).heap[w2.heap.size]? = some (.cells (iv lvs).toArray 3 (0, 0))) := by
   show _ = _
   rw [setRow_heap _ _ _ _ _ _ hh3']
   have : (List.replicate n (Value.int .i64 0)).toArray.toList.take 0 ++ iv lvs ++ (List.replicate n (Value.int .i64 0)).toArray.toList.drop (0 + (iv lvs).length) = iv lvs := by
    rw [List.take_zero, List.nil_append, List.drop_eq_nil_of_le (by rw [iv_length, HLvn.out]; simp), List.append_nil]
   rw [this]
  have hb4 := below_setRow (Below.refl w2.heap.size (w2.alloc (.cells (madeCells #[.int .i64 0] n) 3))) (Nat.le_refl _) ((List.replicate n (Value.int .i64 0)).toArray.toList.take 0 ++ iv lvs ++ (List.replicate n (Value.int .i64 0)).toArray.toList.drop (0 + (iv lvs).length)).toArray
  rw [← HW3.out] at hb4
  obtain ⟨w4, hw4⟩ : ∃ w4, w4 = (w2.alloc (.cells (madeCells #[.int .i64 0] n) 3)).setRow w2.heap.size ((List.replicate n (Value.int .i64 0)).toArray.toList.take 0 ++ iv lvs ++ (List.replicate n (Value.int .i64 0)).toArray.toList.drop (0 + (iv lvs).length)).toArray := ⟨_, rfl⟩
  rw [HW3.out, ← hw4, ← HW3.out] at hb4
  rw [← hw4] at hcopy HG4
  clear hw4
  rw [iv_length, HLvn.out] at hcopy
  have hB4 : Below w2.heap.size w2 w4 := HZ.out.2.2.2.2.2.1.trans hb4
  have hz4 : w2.heap.size < w4.heap.size := Nat.lt_of_lt_of_le HZ.out.2.2.2.2.2.2 hb4.size
  have hO4 : RowAt w4 w2.heap.size 3 w2.heap.size n (iv lvs) := RowAt.ofHeap HG4.out (Nat.le_refl _) (by rw [iv_length, HLvn.out]) (by omega)
  obtain ⟨go, hgo⟩ : ∃ go, go = w2.heap.size := ⟨_, rfl⟩
  have hwb : Below w.heap.size w w4 := HI1.out.trans (hB4.mono HI1.out.size)
  have hR1 := HR.out.1.keep hB4 HZ.out.2.2.1
  have hR2 := HR.out.2.1.keep hB4 HZ.out.2.2.2.1
  have hR3 := HR.out.2.2.keep hB4 HZ.out.2.2.2.2.1
  have hC4 : w4.ownsRow w.heap.size 3 1 (.slice (some ⟨gc, 0, none⟩) n cc) n (iv cs) := ownsRow_blocks HC1.out fun k o hk ho => by
   have : gc = k := by simpa [Value.ownBlock] using hk
   subst this
   rw [hB4.block gc (by have := HG1.out.1; have := HZ.out.1; omega), HZ.out.2.1.block gc HG1.out.1]; exact ho
  have HX : Hid (IntsAt w4 gc 0 cs ∧ IntsAt w4 g1 0 lvs ∧ BoolsAt w4 g3 0 (xLeft cs) ∧ IntsAt w4 b off rs ∧ IntsAt w4 g2 0 (xKinds cs para)) := ⟨own_ints hC4, by rw [HLV.out]; exact hR1.ints, hR3.bools, HI.out.1.stay hwb HI.out.2, hR2.ints⟩
  have HY : Hid (gc < w4.heap.size ∧ g1 < w4.heap.size ∧ g3 < w4.heap.size ∧ b < w4.heap.size ∧ g2 < w4.heap.size ∧ go < w4.heap.size ∧ gc ≠ go ∧ g3 ≠ go ∧ Below w.heap.size w w4 ∧ w.heap.size ≤ go) := by
   have h1 := HG1.out.1; have h2 := HZ.out; have h3 := HI.out.2; have h4 := HI1.out.size
   exact ⟨by omega, by omega, by omega, by omega, by omega, by omega, by omega, by omega, hwb, by omega⟩
  have HO4 : Hid (IRow w4 w2.heap.size go n n lvs) := by rw [hgo]; exact hO4
  have HGo : Hid (go = w2.heap.size) := hgo
  clear hb4 HG4 hB4 hz4 hO4 hwb hR1 hR2 hR3 hC4 hh3' hcel'
  go_wp2_with fail
  rw [← hgo]
  clear hcopy hgo HW3
  refine (sequences_row cs lvs (xLeft cs) para n gc 0 cc g1 0 n g3 0 n w4 HL.out.2 HLvn.out (by rw [xLeft_length]; exact HL.out.2) (by omega) (fun l hl => by rw [HLV.out] at hl; have := HLv.out.1 l hl; omega) (by omega) HX.out.1 HX.out.2.1 HX.out.2.2.1 HY.out.1 HY.out.2.1 HY.out.2.2.1).mono ?_
  rintro ev w5 ⟨sv, avs, rfl, hb5, hsr, hal, hdn⟩
  have HSS : Hid (∃ S, S = seqsL cs lvs (xLeft cs) para) := ⟨_, rfl⟩
  obtain ⟨S, hS⟩ := HSS.out
  rw [← hS] at hsr hal hdn
  obtain ⟨sa, sc, rfl⟩ := own_form hsr
  have HSok : Hid (∀ s ∈ S, 0 < s.at'.length ∧ s.at'.length ≤ n ∧ (∀ p ∈ s.at', p < n) ∧ 0 ≤ s.level ∧ s.level ≤ 1000) := by
   intro s hs
   rw [hS, HLV.out] at hs
   have := HS1.out s hs
   rw [HL.out.2] at this
   exact ⟨this.1, this.2.1, this.2.2.1, this.2.2.2.1, by omega⟩
  have HSe : Hid (S = seqsL cs lvs (xLeft cs) para) := hS
  have HSr : Hid (w5.ownsRow w4.heap.size 120 4 (.slice sa S.length sc) S.length (sqV avs S)) := hsr
  have HDn : Hid (avs.length = S.length ∧ ∀ i, i < S.length → w5.ownsRow w4.heap.size 3 1 (avs.getD i .nilFunc) (S.getD i ⟨[], 0, 0, 0⟩).at'.length (iv (nl (S.getD i ⟨[], 0, 0, 0⟩).at'))) := ⟨hal, hdn⟩
  have HB5 : Hid (Below w4.heap.size w4 w5) := hb5
  have HO5 : Hid (IRow w5 w2.heap.size go n n lvs) := own_below HO4.out hb5
  clear hb5 hsr hal hdn hS
  have hSn : S.length ≤ 100000 := by
   have h1 := sqTo_length cs lvs (xLeft cs) para (runsL lvs (xLeft cs)) n (runsL lvs (xLeft cs)).length
   have h2 : S = sqTo cs lvs (xLeft cs) para (runsL lvs (xLeft cs)) n (runsL lvs (xLeft cs)).length := by rw [HSe.out]; unfold seqsL sqTo; rw [List.take_length, HL.out.2]
   have h3 := runs_few lvs (xLeft cs)
   rw [HLvn.out] at h3
   rw [← h2] at h1
   omega
  go_wp2
  go_loopg [12] S.length (fun gh iv' W => ∃ (j : Nat) (o : List Int), j ≤ S.length ∧ gh = S.length - j ∧ iv' = .int .i64 j ∧ IRow W w2.heap.size go n n o ∧ w5.grownBy W (some go) ∧ o = ((S.take j).flatMap (seqTrip rs (xKinds cs para))).foldl setF lvs)
  case atStart => exact ⟨0, lvs, by omega, rfl, rfl, HO5.out, World.grownBy.refl _ _, rfl⟩
  case round =>
   clear HO5
   obtain ⟨j, o, hj, rfl, rfl, hI, hGr, hE⟩ := hrel
   have HIo : Hid (IRow wr w2.heap.size go n n o) := hI
   have HGr : Hid (w5.grownBy wr (some go)) := hGr
   have HE : Hid (o = ((S.take j).flatMap (seqTrip rs (xKinds cs para))).foldl setF lvs) := hE
   have hz5 : w4.heap.size ≤ w5.heap.size := HB5.out.size
   have hY := HY.out
   by_cases hlt : j < S.length
   ·obtain ⟨gs, cps, hv, hcps, hgs, hgsB⟩ := own_some HSr.out (by omega)
    obtain ⟨hv1, hv2⟩ : sa = some ⟨gs, 0, none⟩ ∧ sc = cps := by simpa using hv
    clear hv
    subst hv1
    subst hv2
    have hsm : S.getD j ⟨[], 0, 0, 0⟩ ∈ S := getD_mem hlt
    have hok := HSok.out _ hsm
    obtain ⟨ga, ca, hav, hcac, hgaw, hgaB⟩ := own_some (HDn.out.2 j hlt) hok.1
    have hat := HDn.out.2 j hlt
    rw [hav] at hat
    have hsq := sqV_at avs S j HDn.out.1 hlt
    have e0 := World.ownsRow.cellAt HSr.out (j * 4) (by omega)
    have e1 := World.ownsRow.cellAt HSr.out (j * 4 + 1) (by omega)
    have e2 := World.ownsRow.cellAt HSr.out (j * 4 + 2) (by omega)
    have e3 := World.ownsRow.cellAt HSr.out (j * 4 + 3) (by omega)
    rw [hsq.1, hav, ← grown_cell hGr hgs (by omega)] at e0
    rw [hsq.2.1, ← grown_cell hGr hgs (by omega)] at e1
    rw [hsq.2.2.1, ← grown_cell hGr hgs (by omega)] at e2
    rw [hsq.2.2.2, ← grown_cell hGr hgs (by omega)] at e3
    have HN : Hid (((S.take (j + 1)).flatMap (seqTrip rs (xKinds cs para))).foldl setF lvs = (seqTrip rs (xKinds cs para) (S.getD j ⟨[], 0, 0, 0⟩)).foldl setF o) := by
     show _ = _
     rw [hE, List.take_succ_eq_append_getElem hlt, List.flatMap_append, List.foldl_append]
     simp [List.getD_eq_getElem?_getD, List.getElem?_eq_getElem hlt]
    have HSol : Hid (∀ W, W.heap = wr.heap → Calls Tryz.prog 73 #[.agg #[.slice (some ⟨ga, 0, none⟩) (S.getD j ⟨[], 0, 0, 0⟩).at'.length ca, .int .i64 (S.getD j ⟨[], 0, 0, 0⟩).level, .int .i64 (S.getD j ⟨[], 0, 0, 0⟩).sos, .int .i64 (S.getD j ⟨[], 0, 0, 0⟩).eos], .slice (some ⟨b, off, none⟩) n cap, .slice (some ⟨g2, 0, none⟩) n n, .slice (some ⟨go, 0, none⟩) n n] W fun ev w' => ev = .returned (.tuple #[]) ∧ IRow w' w2.heap.size go n n ((seqTrip rs (xKinds cs para) (S.getD j ⟨[], 0, 0, 0⟩)).foldl setF o) ∧ W.grownBy w' (some go)) := by
     intro W hW
     have cell_eq : ∀ (bb k : Nat), bb < w5.heap.size → bb ≠ go → W.cell? ⟨bb, k, none⟩ = w5.cell? ⟨bb, k, none⟩ := fun bb k h1 h2 => by
      rw [← grown_cell hGr h1 h2]; simp only [World.cell?, hW]
     have hIW : IRow W w2.heap.size go n n o := ownsRow_blocks hI fun k oo _ ho => by rw [hW]; exact ho
     refine solve_row rs (xKinds cs para) o (S.getD j ⟨[], 0, 0, 0⟩) n (S.getD j ⟨[], 0, 0, 0⟩).at'.length ga 0 ca b off cap g2 0 n go n w2.heap.size W rfl hok.1 (by omega) hok.2.2.1 hok.2.2.2 ?_ ?_ ?_ ?_ ?_ ?_ HL.out.1 (by rw [xKinds_length]; exact HL.out.2) hIW (by omega)
     ·intro k hk
      rw [Nat.zero_add, cell_eq ga k hgaw (by omega)]
      exact own_icell hat k hk
     ·rw [hW]; have := hGr.size; omega
     ·intro k hk
      rw [cell_eq b (off + k) (by omega) (by have := HGo.out; have := HI.out.2; have := HI1.out.size; omega)]
      rw [HB5.out.cell (p := ⟨b, off + k, none⟩) hY.2.2.2.1]
      exact HX.out.2.2.2.1 k hk
     ·rw [hW]; have := hGr.size; omega
     ·intro k hk
      rw [cell_eq g2 (0 + k) (by omega) (by have := HGo.out; have := HZ.out.2.2.2.1; omega)]
      rw [HB5.out.cell (p := ⟨g2, 0 + k, none⟩) hY.2.2.2.2.1]
      exact HX.out.2.2.2.2 k hk
     ·rw [hW]; have := hGr.size; omega
    generalize S.getD j ⟨[], 0, 0, 0⟩ = sj at *
    obtain ⟨sat, slev, ssos, seos⟩ := sj
    simp only at e1 e2 e3 HSol
    clear hI hGr hE hsq hav hat hsm hok
    go_wp2_with fail
    refine (HSol.out wr rfl).mono ?_
    rintro ev w6 ⟨rfl, hI6, hG6⟩
    have HI6 : Hid (IRow w6 w2.heap.size go n n ((seqTrip rs (xKinds cs para) ⟨sat, slev, ssos, seos⟩).foldl setF o)) := hI6
    have HG6 : Hid (w5.grownBy w6 (some go)) := HGr.out.trans hG6
    clear hI6 hG6 HSol e0 e1 e2 e3
    go_wp2
    go_roundg (S.length - (j + 1))
    case measure => omega
    case rel => exact ⟨j + 1, _, by omega, rfl, by simp, HI6.out, HG6.out, HN.out.symm⟩
   ·have HO : Hid (o = (S.flatMap (seqTrip rs (xKinds cs para))).foldl setF lvs) := by
     show _ = _
     rw [hE, show j = S.length by omega, List.take_length]
    have hol : o.length = n := hI.len
    have HF : Hid (BoolsAt w5 g3 0 (xLeft cs) ∧ IntsAt w5 gc 0 cs) := ⟨HX.out.2.2.1.stay HB5.out hY.2.2.1, HX.out.1.stay HB5.out hY.1⟩
    have HOl : Hid (o.length = n) := hol
    clear hI hGr hE hol
    go_wp2
    go_loopg [13] n (fun gh iv' W => ∃ (k : Nat) (o' : List Int), k ≤ n ∧ gh = n - k ∧ iv' = .int .i64 k ∧ IRow W w2.heap.size go n n o' ∧ w5.grownBy W (some go) ∧ FillTo para cs o o' k)
    case atStart => exact ⟨0, o, by omega, rfl, rfl, HIo.out, HGr.out, by rw [HOl.out, HL.out.2], fun _ _ _ => rfl, fun h => by omega⟩
    case round =>
     clear HIo HGr
     obtain ⟨k, o', hk, rfl, rfl, hI, hGr, hFt⟩ := hrel
     have HIo : Hid (IRow wr w2.heap.size go n n o') := hI
     have HGr : Hid (w5.grownBy wr (some go)) := hGr
     by_cases hlt : k < n
     ·have hkc : k < cs.length := by rw [HL.out.2]; exact hlt
      have cf := HF.out.1 k (by rw [xLeft_length]; exact hkc)
      rw [xLeft_getD cs k hkc, Nat.zero_add, ← grown_cell hGr (by omega) hY.2.2.2.2.2.2.2.1] at cf
      have hcell := hI.cell k hlt
      have hfr := hI.frozen k
      cases hlb : leftB (cs.getD k 0)
      ·rw [hlb] at cf
       cases k with
       | zero =>
        have HN : Hid (FillTo para cs o (o'.set 0 para) 1) := hFt.set hkc hlb (fun _ => rfl)
        generalize o'.getD 0 0 = oc at hcell
        clear hI hGr hFt hlb hkc hz5 hY
        go_wp2
        go_roundg (n - 1)
        case measure => omega
        case rel => exact ⟨1, _, by omega, rfl, rfl, HIo.out.set 0 para, HGr.out.trans (HIo.out.grown 0 para), HN.out⟩
       | succ q =>
        have hcq := hI.cell q (by omega)
        have HN : Hid (FillTo para cs o (o'.set (q + 1) (o'.getD q 0)) (q + 1 + 1)) := hFt.set hkc hlb (fun h => by omega)
        generalize o'.getD (q + 1) 0 = oc at hcell
        generalize o'.getD q 0 = pv at hcq HN
        have HSet : Hid (IRow ((wr.setCell ⟨go, q + 1, none⟩ (.int .i64 para)).setCell ⟨go, q + 1, none⟩ (.int .i64 pv)) w2.heap.size go n n (o'.set (q + 1) pv) ∧ w5.grownBy ((wr.setCell ⟨go, q + 1, none⟩ (.int .i64 para)).setCell ⟨go, q + 1, none⟩ (.int .i64 pv)) (some go)) := by
         have h2 := (hI.set (q + 1) para).set (q + 1) pv
         rw [List.set_set] at h2
         exact ⟨h2, (hGr.trans (hI.grown (q + 1) para)).trans ((hI.set (q + 1) para).grown (q + 1) pv)⟩
        clear hI hGr hFt hlb hkc hz5 hY
        go_wp2
        go_roundg (n - (q + 1 + 1))
        case measure => omega
        case rel => exact ⟨q + 1 + 1, _, by omega, rfl, by simp, HSet.out.1, HSet.out.2, HN.out⟩
      ·rw [hlb] at cf
       have HN : Hid (FillTo para cs o o' (k + 1)) := hFt.keep hlb
       clear hI hGr hFt hlb hkc hz5 hY hcell hfr
       go_wp2
       go_roundg (n - (k + 1))
       case measure => omega
       case rel => exact ⟨k + 1, o', by omega, rfl, by simp, HIo.out, HGr.out, HN.out⟩
     ·obtain rfl : k = n := by omega
      have hsz := hGr.size
      have cell_eq : ∀ (bb q : Nat), bb < w5.heap.size → bb ≠ go → wr.cell? ⟨bb, q, none⟩ = w5.cell? ⟨bb, q, none⟩ := fun bb q h1 h2 => grown_cell hGr h1 h2
      have HFin : Hid (finL para para cs o' = LV) := by
       show _ = _
       rw [HQ.out, finL_congr cs o o' para (by rw [HOl.out, HL.out.2]) hFt.1 hFt.2.1, HO.out, HSe.out, HLV.out]
      have HTr : Hid (Calls Tryz.prog 74 #[.slice (some ⟨gc, 0, none⟩) k cc, .slice (some ⟨go, 0, none⟩) k k, .slice (some ⟨g3, 0, none⟩) k k, .int .i64 para] wr fun ev w' => ev = .returned (.slice (some ⟨go, 0, none⟩) k k) ∧ IRow w' w2.heap.size go k k (finL para para cs o') ∧ wr.grownBy w' (some go)) := by
       refine trailing_row cs o' para k gc 0 cc g3 0 k w2.heap.size go k wr HL.out.2 (by omega) ?_ ?_ (by omega) (by omega) hI hY.2.2.2.2.2.2.1 hY.2.2.2.2.2.2.2.1 (fun h h' => hFt.2.2 h h')
       ·intro q hq
        rw [cell_eq gc (0 + q) (by omega) hY.2.2.2.2.2.2.1]
        exact HF.out.2 q hq
       ·intro q hq
        rw [cell_eq g3 (0 + q) (by omega) hY.2.2.2.2.2.2.2.1]
        exact HF.out.1 q hq
      have HBw : Hid (Below w.heap.size w wr) := (hY.2.2.2.2.2.2.2.2.1.trans (HB5.out.mono (by have := hY.2.2.2.2.2.2.2.2.1.size; omega))).grown hGr (by have := hY.2.2.2.2.2.2.2.2.1.size; omega) (fun q hq => by have := Option.some.inj hq; have := hY.2.2.2.2.2.2.2.2.2; omega)
      have hB0 : w.heap.size ≤ go := hY.2.2.2.2.2.2.2.2.2
      clear hI hGr hFt hz5 hY hsz cell_eq
      go_wp2_with fail
      refine HTr.out.mono ?_
      rintro ev w7 ⟨rfl, hI7, hG7⟩
      rw [HFin.out] at hI7
      have HI7 : Hid (w7.ownsRow w.heap.size 3 1 (.slice (some ⟨go, 0, none⟩) k k) k (iv LV)) := own_base hI7 hB0
      have HB7 : Hid (Below w.heap.size w w7) := HBw.out.grown hG7 HBw.out.size (fun q hq => by have := Option.some.inj hq; omega)
      clear hI7 hG7 HTr
      go_wp2
      refine bodyPost_ret (v := .slice (some ⟨go, 0, none⟩) k k) (by simp [results, Tryz.results48, go_sem]) rfl ⟨go, k, rfl, HI7.out, HB7.out⟩
end Go.Proofs.YtkbinfhclaafhaaGreatDoor
namespace Go.Proofs.YtkbinfhclaafhaaGreatDoor
open Go.RowKit
attribute [local go_sem ↓] Go.wp_at_zero Go.wp_at_succ
set_option maxRecDepth 100000 in
set_option maxHeartbeats 4000000 in
theorem rules_row (w : World) : Calls Tryz.prog 86 #[] w fun e w' => ∃ g, e = .returned (.slice (some ⟨g, 0, none⟩) 10 10) ∧ (∀ k, k < 10 → w'.cell? ⟨g, k, none⟩ = some (.func (.func (ruleF k)) #[] #[])) ∧ w.heap.size ≤ g ∧ g < w'.heap.size ∧ Below w.heap.size w w' := by
 go_enter Tryz.func86, Tryz.ntmps86
 go_wp2
 go_ret
 refine ⟨_, rfl, fun k hk => ?_, Nat.le_refl _, by simp, (Below.refl _ _).alloc (Nat.le_refl _) _⟩
 match k, hk with
 | 0, _ => simp [ruleF]
 | 1, _ => simp [ruleF]
 | 2, _ => simp [ruleF]
 | 3, _ => simp [ruleF]
 | 4, _ => simp [ruleF]
 | 5, _ => simp [ruleF]
 | 6, _ => simp [ruleF]
 | 7, _ => simp [ruleF]
 | 8, _ => simp [ruleF]
 | 9, _ => simp [ruleF]
set_option maxRecDepth 100000 in
set_option maxHeartbeats 32000000 in
theorem bLevels_seqs (hsqs : ∀ (W : World) (L : LP) (ks ls : List Int), LX W L ks ls → L.n ≤ 1000 → (∀ p, 0 ≤ ls.getD p 0 ∧ ls.getD p 0 ≤ 1000) → (0 ≤ L.p ∧ L.p ≤ 1000) →
   Calls Tryz.prog 87 #[.pointer (some ⟨L.lb, 0, none⟩)] W fun e w' => ∃ av qs, e = .returned av ∧ SeqsOk w' W.heap.size L ks ls av qs ∧ qs.map SqD.at' = ((runsL ls (xLeft L.cs)).filter (begsB L.cs)).map (chainF L.cs (runsL ls (xLeft L.cs)) L.n) ∧ Below W.heap.size W w')
  (s : ByteArray) (l : List Int) (d : Int) (w : World) (hs : s.size ≤ 600) (hr : runesOf s = some l) (hl : l ≠ []) (hl6 : l.length ≤ 1000) (hbr : Br w) (hcs : ∀ c ∈ l.map cls, 0 ≤ c ∧ c ≤ 21) (hcl : ∀ (r : Int) (W : World), Below w.heap.size w W → Calls Tryz.prog 66 #[.int .i32 r] W fun e w' => e = .returned (.int .i64 (cls r)) ∧ Below W.heap.size W w') :
  Calls Tryz.prog 55 #[.string s, .int .i64 d] w fun e w' => ∃ g, e = .returned (.slice (some ⟨g, 0, none⟩) l.length l.length) ∧ RowAt w' w.heap.size 3 g l.length (iv (levelsL l (l.map cls) d)) ∧ Below w.heap.size w w' := by
 have HSQ : Hid _ := hsqs
 clear hsqs
 have HNew : Hid (Calls Tryz.prog 84 #[.string s, .int .i64 d] w fun e w' => ∃ L : LP, e = .returned (.pointer (some ⟨L.lb, 0, none⟩)) ∧ LX w' L L.cs (List.replicate L.n 0) ∧ L.cs = l.map cls ∧ L.rs = l ∧ L.n = l.length ∧ L.p = paraL (l.map cls) d ∧ L.B = w.heap.size ∧ Below w.heap.size w w') := newLine_some s l d w hs hr hl hcl
 have HBr : Hid (Br w) := hbr
 have hpp : 0 ≤ paraL (l.map cls) d ∧ paraL (l.map cls) d ≤ 1 := by rcases paraL_01 (l.map cls) d with h | h <;> omega
 clear hs hr hl hbr hcl
 go_enter Tryz.func55, Tryz.ntmps55
 go_wp2_with fail
 refine HNew.out.mono ?_
 rintro ev w1 ⟨L, rfl, hX, hLc, hLr, hLn, hLp, hLB, hb1⟩
 clear HNew
 have HLc : Hid (∀ c ∈ L.cs, 0 ≤ c ∧ c ≤ 21) := by show ∀ c ∈ L.cs, _; rw [hLc]; exact hcs
 have hp : 0 ≤ L.p ∧ L.p ≤ 125 := by rw [hLp]; omega
 have HEq : Hid (levelsL l (l.map cls) d = levelsL L.rs L.cs d ∧ L.p = paraL L.cs d ∧ l.length = L.n ∧ w.heap.size = L.B) := ⟨by rw [hLr, hLc], by rw [hLc]; exact hLp, hLn.symm, hLB.symm⟩
 have hn6 : L.n ≤ 1000 := by omega
 have hn0 : L.cs.length = L.n := hX.len
 have HEx : Hid (Calls Tryz.prog 85 #[.pointer (some ⟨L.lb, 0, none⟩)] w1 fun e w' => e = .returned (.tuple #[]) ∧ LX w' L (kP L.cs L.p) (xLevels L.cs L.p) ∧ Below L.B w1 w') := setExpl_some w1 L hX (by rw [hLB]; exact hb1.size) hp hn6
 have HB1 : Hid (Below L.B w w1) := by show Below _ _ _; rw [hLB]; exact hb1
 clear hX hLc hLr hLn hLp hb1 hcs hpp hl6
 go_wp2_with fail
 refine HEx.out.mono ?_
 rintro ev w2 ⟨rfl, hX2, hb2⟩
 clear HEx
 have hB2 : Below L.B w w2 := HB1.out.trans hb2
 have hz2 : L.B ≤ w2.heap.size := by have := hB2.size; rw [← HEq.out.2.2.2] at *; omega
 obtain ⟨n, hn⟩ : ∃ n, n = L.n := ⟨_, rfl⟩
 have hmk := run_make_row' (P := Tryz.prog) 31 3 (.int .i64 0) 8 Tryz.underlying31 Tryz.infoI8 rfl .i64 .i64 n (by omega) (by omega)
 have c3 := hX2.f3
 rw [← hn] at c3
 have hb3 : Below w2.heap.size w2 (w2.alloc (.cells (madeCells #[.int .i64 0] n) 3)) := (Below.refl _ _).alloc (Nat.le_refl _) _
 have hX3 := hX2.below hb3
 have hO3 : RowAt (w2.alloc (.cells (madeCells #[.int .i64 0] n) 3)) L.B 3 w2.heap.size n (List.replicate n (.int .i64 0)) := RowAt.made hz2 (by omega)
 have hB3 : Below L.B w (w2.alloc (.cells (madeCells #[.int .i64 0] n) 3)) := hB2.alloc hz2 _
 have hz3 : (w2.alloc (.cells (madeCells #[.int .i64 0] n) 3)).heap.size = w2.heap.size + 1 := by simp
 have HLt : Hid (∀ g, L.has g → g < w2.heap.size) := hX2.lt
 have c3b := hX3.f3
 rw [← hn] at c3b
 have hrl := hX3.rl
 unfold RowAt at hrl
 rw [← hn] at hrl
 obtain ⟨W4, hcp, hh4, hg4⟩ := copy_all (P := Tryz.prog) (w := w2.alloc (.cells (madeCells #[.int .i64 0] n) 3)) (sT := 31) (e := 3) (ty := 3) (g := w2.heap.size) Tryz.underlying31 Tryz.sizeInt (RowAt.heap hO3) (by simp) hrl (fun v hv => by simp only [iv, List.mem_map] at hv; obtain ⟨x, _, rfl⟩ := hv; rfl)
 have hap : ∀ g, L.has g → g ≠ w2.heap.size := fun g hg => by have := hX2.lt g hg; omega
 have hX4 : LX W4 L (kP L.cs L.p) (xLevels L.cs L.p) := hX3.same hg4.size fun g hg => hg4.block g (hX3.lt g hg) (fun e => hap g hg (Option.some.inj e))
 have hO4 : RowAt W4 L.B 3 w2.heap.size n (iv (xLevels L.cs L.p)) := RowAt.ofHeap hh4 hz2 (by rw [iv_length, xLevels_lenQ, hn]; exact hn0) (by omega)
 have hB4 : Below L.B w W4 := hB3.grown hg4 (by omega) (fun k hk => by cases hk; exact hz2)
 have hz4 : w2.heap.size < W4.heap.size := by have := hg4.size; omega
 have hbr4 : Br W4 := HBr.out.below (by have := hB4; rw [← HEq.out.2.2.2] at this; exact this)
 have HF4 : Hid (FS W4 L (kP L.cs L.p) (xLevels L.cs L.p) w2.heap.size (xLevels L.cs L.p) ∧ Below L.B w W4 ∧ w2.heap.size < W4.heap.size ∧ Br W4) := ⟨⟨hX4, by rw [← hn]; exact hO4, hap⟩, hB4, hz4, hbr4⟩
 have HZ2 : Hid (L.B ≤ w2.heap.size) := hz2
 have HNn : Hid (n = L.n) := hn
 have hn7 : n ≤ 1000 := by omega
 clear hX2 hb2 hB2 hb3 hX3 hO3 hB3 hz3 hz2 HB1 hn hrl hh4 hg4 hX4 hO4 hB4 hz4 hbr4 hap
 obtain ⟨go, hgo⟩ : ∃ go, go = w2.heap.size := ⟨_, rfl⟩
 have HRu : Hid (Calls Tryz.prog 86 #[] W4 fun e w' => ∃ g, e = .returned (.slice (some ⟨g, 0, none⟩) 10 10) ∧ (∀ k, k < 10 → w'.cell? ⟨g, k, none⟩ = some (.func (.func (ruleF k)) #[] #[])) ∧ W4.heap.size ≤ g ∧ g < w'.heap.size ∧ Below W4.heap.size W4 w') := rules_row W4
 go_wp2_with fail
 rw [← hgo] at HF4 HLt HZ2 ⊢
 clear hgo c3 c3b hmk hcp
 refine HRu.out.mono ?_
 rintro ev W5 ⟨g, rfl, hrl5, hg5, hgz5, hb5⟩
 clear HRu
 have hF5 := HF4.out.1.below hb5
 have hB5 : Below L.B w W5 := HF4.out.2.1.trans (hb5.mono (by have := HF4.out.2.2.1; have := HZ2.out; omega))
 have hbr5 := HF4.out.2.2.2.below hb5
 have hz5 : go < W5.heap.size := by have := HF4.out.2.2.1; have := hb5.size; omega
 have hgg : g ≠ go := by have := HF4.out.2.2.1; omega
 have HSq : Hid (Calls Tryz.prog 87 #[.pointer (some ⟨L.lb, 0, none⟩)] W5 fun e w' => ∃ av qs, e = .returned av ∧ SeqsOk w' W5.heap.size L (kP L.cs L.p) (xLevels L.cs L.p) av qs ∧ qs.map SqD.at' = ((runsL (xLevels L.cs L.p) (xLeft L.cs)).filter (begsB L.cs)).map (chainF L.cs (runsL (xLevels L.cs L.p) (xLeft L.cs)) L.n) ∧ Below W5.heap.size W5 w') :=
  HSQ.out W5 L _ _ hF5.ln hn6 (fun p => by have := xLevels_bd (cs := L.cs) hp p; omega) (by omega)
 have HC : Hid (LVc W5.heap.size L go g) := ⟨by have := HZ2.out; omega, hz5, HZ2.out, hgz5, hgg, fun x hx => by have := HLt.out x hx; omega, by
  obtain ⟨tt, fr, e⟩ := HBr.out
  have := heap_lt e
  rw [← HEq.out.2.2.2]; exact this⟩
 have H5 : Hid (FS W5 L (kP L.cs L.p) (xLevels L.cs L.p) go (xLevels L.cs L.p) ∧ (∀ k, k < 10 → W5.cell? ⟨g, k, none⟩ = some (.func (.func (ruleF k)) #[] #[])) ∧ Br W5 ∧ Below L.B w W5) := ⟨hF5, hrl5, hbr5, hB5⟩
 clear HF4 hF5 hB5 hbr5 hz5 hgg hrl5 hg5 hgz5 hb5
 go_wp2_with fail
 refine HSq.out.mono ?_
 rintro ev W6 ⟨av, qs, rfl, hQ, hqa, hb6⟩
 clear HSq
 obtain ⟨B, hB⟩ : ∃ B, B = W5.heap.size := ⟨_, rfl⟩
 rw [← hB] at hQ HC
 have hLV0 : LV W6 w B L (kP L.cs L.p) (xLevels L.cs L.p) go g av qs 0 (xLevels L.cs L.p) := ⟨H5.out.1.below hb6, fun k hk => cell_grown (r := none) (asGrown hb6) (H5.out.2.1 k hk) (by simp), hQ.row, fun q hq => hQ.all q (by simpa using hq), H5.out.2.2.1.below hb6, H5.out.2.2.2.trans (hb6.mono (by have := HC.out.lo; omega))⟩
 have HLV0 : Hid (LV W6 w B L (kP L.cs L.p) (xLevels L.cs L.p) go g av qs 0 (xLevels L.cs L.p)) := hLV0
 have HZ : Hid (B ≤ W6.heap.size) := by show _ ≤ _; rw [hB]; exact hb6.size
 have HSeqs : Hid (qs.map (sqOf L (xLevels L.cs L.p)) = seqsL L.cs (xLevels L.cs L.p) (xLeft L.cs) L.p) := sqs_of hn0 hqa
 have HAp : Hid (qs.Pairwise Apart) := hQ.ap
 have HIn : Hid (∀ q ∈ qs, sqOf L (xLevels L.cs L.p) q ∈ seqsL L.cs (xLevels L.cs L.p) (xLeft L.cs) L.p) := fun q hq => by
  rw [← HSeqs.out]; exact List.mem_map.2 ⟨q, hq, rfl⟩
 obtain ⟨ra, rc, rfl⟩ := own_form hQ.row
 have hqn : qs.length ≤ 1000 := by
  have h1 : (qs.map SqD.at').length ≤ L.n := by
   rw [hqa, List.length_map]
   refine Nat.le_trans (List.length_filter_le _ _) ?_
   have hR := xL_len L.cs L.p
   have h2 := few_nodup (runsL (xLevels L.cs L.p) (xLeft L.cs)).flatten L.cs.length hR.nod (fun a ha => by obtain ⟨r, hr, ha⟩ := List.mem_flatten.1 ha; exact hR.lt r hr a ha)
   have h3 : ∀ l : List (List Nat), (∀ r ∈ l, r ≠ []) → l.length ≤ l.flatten.length := by
    intro l
    induction l with
    | nil => intro _; simp
    | cons a l ih =>
     intro hl
     have h1 := ih (fun r hr => hl r (by simp [hr]))
     have h2 : 0 < a.length := List.length_pos_iff.2 (hl a (by simp))
     simp only [List.length_cons, List.flatten_cons, List.length_append]
     omega
   have := h3 _ hR.ne
   omega
  rw [List.length_map] at h1
  omega
 obtain ⟨N, hN⟩ : ∃ N, N = qs.length := ⟨_, rfl⟩
 rw [← hN] at HLV0 hqn ⊢
 have HNl : Hid (qs.length = N) := hN.symm
 clear hQ hqa hb6 hB hLV0 H5 hN
 go_wp2
 go_loopg [33] N (fun gk iv W => ∃ (j : Nat), j ≤ N ∧ gk = N - j ∧ iv = .int .i64 j ∧ B ≤ W.heap.size ∧ LV W w B L (kP L.cs L.p) (xLevels L.cs L.p) go g (.slice ra N rc) qs j ((((qs.take j).map (sqOf L (xLevels L.cs L.p))).flatMap (seqTripP L.rs (kP L.cs L.p))).foldl addF (xLevels L.cs L.p)))
 case atStart => exact ⟨0, by omega, rfl, rfl, HZ.out, HLV0.out⟩
 case round =>
  clear HLV0 HZ
  obtain ⟨j, hj, rfl, rfl, hz, hV⟩ := hrel
  by_cases hlt : j < N
  ·have hjq : j < qs.length := by rw [HNl.out]; exact hlt
   obtain ⟨q, hq⟩ : ∃ q, qs[j]? = some q := ⟨_, List.getElem?_eq_getElem hjq⟩
   have hrow := hV.row
   rw [HNl.out] at hrow
   obtain ⟨rg, rcap, hre, _, _, _⟩ := own_some hrow (by omega)
   have hre2 : ra = some ⟨rg, 0, none⟩ := (show ra = some ⟨rg, 0, none⟩ ∧ rc = rcap by simpa using hre).1
   subst hre2
   have c1 : wr.cell? ⟨rg, j, none⟩ = some (.pointer (some ⟨q.sb, 0, none⟩)) := by
    rw [World.ownsRow.cellAt hrow j (by omega), List.getElem?_map, hq]; rfl
   have hSq := hV.sq q (by rw [drop_cons hq]; exact List.mem_cons_self)
   obtain ⟨sq, hsq⟩ : ∃ sq, sq = sqOf L (xLevels L.cs L.p) q := ⟨_, rfl⟩
   have hin : sq ∈ seqsL L.cs (xLevels L.cs L.p) (xLeft L.cs) L.p := by rw [hsq]; exact HIn.out q (List.mem_of_getElem? hq)
   obtain ⟨s1, s2, _, _, s5⟩ := seq_facts HLc.out hp hin
   have hat : sq.at' = q.at' := by rw [hsq]; rfl
   have hlev : 0 ≤ sq.level := by rw [hsq]; exact (xLevels_bd hp _).1
   have hS0 : SqS wr B L sq.level sq.sos sq.eos (gath (kP L.cs L.p) q.at') q (gath (kP L.cs L.p) q.at') := by rw [hsq]; exact hSq.sqs
   have htk : (qs.take (j + 1)).map (sqOf L (xLevels L.cs L.p)) = (qs.take j).map (sqOf L (xLevels L.cs L.p)) ++ [sq] := by
    rw [List.take_add_one, hq, List.map_append, hsq]; rfl
   have hsub : ((qs.take j).map (sqOf L (xLevels L.cs L.p))).Sublist (seqsL L.cs (xLevels L.cs L.p) (xLeft L.cs) L.p) := by
    rw [← HSeqs.out]; exact (List.take_sublist j qs).map _
   have hobd := part_bd HLc.out L.rs hp _ hsub
   have HV1 : Hid (LV wr w B L (kP L.cs L.p) (xLevels L.cs L.p) go g (.slice (some ⟨rg, 0, none⟩) N rc) qs (j + 1) ((((qs.take j).map (sqOf L (xLevels L.cs L.p))).flatMap (seqTripP L.rs (kP L.cs L.p))).foldl addF (xLevels L.cs L.p))) := ⟨hV.fs, hV.rl, hV.row, fun q' hq' => hV.sq q' (by rw [drop_cons hq]; exact List.mem_cons_of_mem _ hq'), hV.br, hV.hb⟩
   have HS0 : Hid (SqS wr B L sq.level sq.sos sq.eos (gath (kP L.cs L.p) q.at') q (gath (kP L.cs L.p) q.at')) := hS0
   have HQ : Hid (B ≤ q.gc ∧ q.m ≤ 1000 ∧ 0 < q.m ∧ q.at'.length = q.m ∧ (∀ q' ∈ qs.drop (j + 1), Apart q q') ∧ (∀ p ∈ q.at', p < L.n) ∧ B ≤ q.gp ∧ B ≤ q.sb) := by
    refine ⟨(hSq.sq.row.lt q.gc rfl).1, ?_, hSq.pos, hSq.len, drop_apart HAp.out hq, fun p hpp => by rw [← hn0]; exact (s5 p (by rw [hat]; exact hpp)).1, hSq.lo.1, hSq.lo.2⟩
    have h1 := few_nodup q.at' L.n ?_ (fun p hpp => by rw [← hn0]; exact (s5 p (by rw [hat]; exact hpp)).1)
    ·rw [hSq.len] at h1; omega
    ·rw [← hat]
     have h2 := seqsAt_nodup L.cs L.p
     exact h2.sublist (by rw [List.flatMap_def]; exact List.sublist_flatten_of_mem (List.mem_map.2 ⟨sq, hin, rfl⟩))
   have HTk : Hid (((((qs.take (j + 1)).map (sqOf L (xLevels L.cs L.p))).flatMap (seqTripP L.rs (kP L.cs L.p))).foldl addF (xLevels L.cs L.p)) = (seqTripP L.rs (kP L.cs L.p) sq).foldl addF ((((qs.take j).map (sqOf L (xLevels L.cs L.p))).flatMap (seqTripP L.rs (kP L.cs L.p))).foldl addF (xLevels L.cs L.p))) := by
    show _ = _
    rw [htk, List.flatMap_append, List.foldl_append]
    simp
   have HTr : Hid (seqTripP L.rs (kP L.cs L.p) sq = trip q.at' sq.level (rulesT sq.level sq.sos sq.eos (gath (kP L.cs L.p) q.at') (gath L.rs q.at') 10)) := by
    show _ = _
    rw [seqTripP, ← rulesT_all, hat]
   have HOb : Hid (∀ p, 0 ≤ ((((qs.take j).map (sqOf L (xLevels L.cs L.p))).flatMap (seqTripP L.rs (kP L.cs L.p))).foldl addF (xLevels L.cs L.p)).getD p 0 ∧ ((((qs.take j).map (sqOf L (xLevels L.cs L.p))).flatMap (seqTripP L.rs (kP L.cs L.p))).foldl addF (xLevels L.cs L.p)).getD p 0 ≤ 1000) := fun p => by have := hobd p; omega
   have hk0 : (gath (kP L.cs L.p) q.at').length = q.m := by rw [gath_nl_len]; exact HQ.out.2.2.2.1
   have hjN : (j : Int) < (N : Int) := by omega
   have HZ : Hid (B ≤ wr.heap.size) := hz
   clear hjq hrow hre hSq hin s5 hS0 htk hsub hobd hV hz
   generalize ((((qs.take j).map (sqOf L (xLevels L.cs L.p))).flatMap (seqTripP L.rs (kP L.cs L.p))).foldl addF (xLevels L.cs L.p)) = oo at *
   generalize seqTripP L.rs (kP L.cs L.p) sq = tp at *
   obtain ⟨k0, hk0e⟩ : ∃ k0, k0 = gath (kP L.cs L.p) q.at' := ⟨_, rfl⟩
   rw [← hk0e] at HS0 HTr hk0
   clear hk0e hq hsq hat
   go_wp2
   go_loopg [39] 10 (fun gk iv W => ∃ k : Nat, k ≤ 10 ∧ gk = 10 - k ∧ iv = .int .i64 k ∧ B ≤ W.heap.size ∧ LV W w B L (kP L.cs L.p) (xLevels L.cs L.p) go g (.slice (some ⟨rg, 0, none⟩) N rc) qs (j + 1) oo ∧ SqS W B L sq.level sq.sos sq.eos k0 q (rulesT sq.level sq.sos sq.eos k0 (gath L.rs q.at') k))
   case atStart => exact ⟨0, by omega, rfl, rfl, HZ.out, HV1.out, HS0.out⟩
   case round =>
    clear HV1 HS0 HZ c1
    obtain ⟨k, hk, rfl, rfl, hz, hV, hS⟩ := hrel
    by_cases hlt2 : k < 10
    ·have ck := hV.rl k hlt2
     have hen := rule_enter k
     have HR : Hid (Calls Tryz.prog (ruleF k) #[.pointer (some ⟨q.sb, 0, none⟩)] wr fun e W' => e = .returned (.tuple #[]) ∧ SqS W' B L sq.level sq.sos sq.eos k0 q (rulesT sq.level sq.sos sq.eos k0 (gath L.rs q.at') (k + 1)) ∧ wr.grownBy W' (some q.gc)) := rule_any hS hV.br HQ.out.2.1 HQ.out.2.2.1 hlev s1 s2 hk0 k
     have HV : Hid (LV wr w B L (kP L.cs L.p) (xLevels L.cs L.p) go g (.slice (some ⟨rg, 0, none⟩) N rc) qs (j + 1) oo) := hV
     have HCu : Hid (∃ cur, wr.heap[q.gc]? = some (.cells cur 108 (0, 0))) := heap_of_own hS.sq.row
     have hk10 : (k : Int) < 10 := by omega
     have HZ : Hid (B ≤ wr.heap.size) := hz
     clear hV hS hz
     generalize ruleF k = fk at *
     go_wp2_with fail
     refine HR.out.mono ?_
     rintro ev W7 ⟨rfl, hS7, hg7⟩
     have HV7 : Hid (LV W7 w B L (kP L.cs L.p) (xLevels L.cs L.p) go g (.slice (some ⟨rg, 0, none⟩) N rc) qs (j + 1) oo) := HV.out.rule HC.out HCu.out HQ.out.1 HQ.out.2.2.2.2.1 hg7 (by have := HC.out.lo; have := HZ.out; omega)
     have HS7 : Hid _ := hS7
     have HZ7 : Hid (B ≤ W7.heap.size) := by have := hg7.size; have := HZ.out; show _ ≤ _; omega
     clear hS7 hg7 HR HV HCu HZ ck hen
     go_wp2
     go_roundg (10 - (k + 1))
     case measure => omega
     case rel => exact ⟨k + 1, by omega, rfl, by go_num, HZ7.out, HV7.out, HS7.out⟩
    ·obtain rfl : k = 10 := by omega
     have hk10 : ¬ ((10 : Nat) : Int) < 10 := by omega
     have HIm : Hid (Calls Tryz.prog 88 #[.pointer (some ⟨q.sb, 0, none⟩), .slice (some ⟨go, 0, none⟩) n n] wr fun e w' => e = .returned (.tuple #[]) ∧ IRow w' L.B go n n (tp.foldl addF oo) ∧ wr.grownBy w' (some go)) := by
      have := setImpl_row wr B q.sb q.gc q.m q.cc q.gp q.op q.cp _ _ sq.level sq.sos sq.eos _ q.at' L.B go n oo hS.sq hS.pl HQ.out.2.2.2.1 (by rw [HNn.out]; exact hV.fs.row) (by have := HC.out.goL; have := HQ.out; omega) (by rw [HNn.out]; exact HQ.out.2.2.2.2.2.1) HQ.out.2.1 hlev HOb.out
      rw [← HTr.out] at this
      exact this
     have HV : Hid (LV wr w B L (kP L.cs L.p) (xLevels L.cs L.p) go g (.slice (some ⟨rg, 0, none⟩) N rc) qs (j + 1) oo) := hV
     have HZ : Hid (B ≤ wr.heap.size) := hz
     clear hV hS hz
     go_wp2_with fail
     refine HIm.out.mono ?_
     rintro ev W7 ⟨rfl, hR7, hg7⟩
     have HV7 : Hid (LV W7 w B L (kP L.cs L.p) (xLevels L.cs L.p) go g (.slice (some ⟨rg, 0, none⟩) N rc) qs (j + 1) (tp.foldl addF oo)) := HV.out.impl HC.out (by rw [← HNn.out]; exact hR7) hg7 (by have := HC.out.lo; have := HZ.out; omega)
     have HZ7 : Hid (B ≤ W7.heap.size) := by have := hg7.size; have := HZ.out; show _ ≤ _; omega
     clear hR7 hg7 HIm HV HZ
     go_wp2
     go_roundg (N - (j + 1))
     case measure => omega
     case rel => exact ⟨j + 1, by omega, rfl, by go_num, HZ7.out, by rw [HTk.out]; exact HV7.out⟩
  ·obtain rfl : j = N := by omega
   have hjN : ¬ (j : Int) < (j : Int) := by omega
   have hFS := hV.fs
   have HB : Hid (Below L.B w wr) := hV.hb
   have HLo : Hid (L.B ≤ wr.heap.size) := by have := HC.out.lo; show _ ≤ _; omega
   have hall : (qs.take j).map (sqOf L (xLevels L.cs L.p)) = seqsL L.cs (xLevels L.cs L.p) (xLeft L.cs) L.p := by
    rw [List.take_of_length_le (by rw [HNl.out]; exact Nat.le_refl _), HSeqs.out]
   rw [hall] at hFS
   have heq := levels_eq (cs := L.cs) (para := L.p) HLc.out L.rs d HEq.out.2.1 hp
   generalize ((seqsL L.cs (xLevels L.cs L.p) (xLeft L.cs) L.p).flatMap (seqTripP L.rs (kP L.cs L.p))).foldl addF (xLevels L.cs L.p) = oo at *
   have HLa : Hid (Calls Tryz.prog 89 #[.pointer (some ⟨L.lb, 0, none⟩), .slice (some ⟨go, 0, none⟩) L.n L.n] wr fun e w' => e = .returned (.tuple #[]) ∧ FS w' L (kP L.cs L.p) (xLevels L.cs L.p) go (fillP L.p (l1 L.p L.cs oo)) ∧ wr.grownBy w' (some go)) := setLast_row wr L _ _ go oo hFS hn6 HLc.out
   rw [← HNn.out] at HLa
   rw [heq] at HLa
   clear hFS hall heq hV hz
   go_wp2_with fail
   refine HLa.out.mono ?_
   rintro ev W8 ⟨rfl, hF8, hg8⟩
   have HR8 : Hid (RowAt W8 L.B 3 go n (iv (levelsL L.rs L.cs d)) ∧ Below L.B w W8) := ⟨by have := hF8.row; rw [← HNn.out] at this; exact this, HB.out.grown hg8 HLo.out (fun y hy => by cases hy; exact HC.out.goB)⟩
   clear HLa hF8 hg8
   go_wp2
   go_ret
   exact ⟨go, by rw [HEq.out.2.2.1, ← HNn.out]; rfl, by rw [HEq.out.1, HEq.out.2.2.1, HEq.out.2.2.2, ← HNn.out]; exact HR8.out.1, by rw [HEq.out.2.2.2]; exact HR8.out.2⟩
end Go.Proofs.YtkbinfhclaafhaaGreatDoor
