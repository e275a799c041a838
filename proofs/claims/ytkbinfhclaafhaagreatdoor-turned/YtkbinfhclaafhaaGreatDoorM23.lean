import Derived.Test.YtkbinfhclaafhaaGreatDoorM18
import Derived.Test.YtkbinfhclaafhaaGreatDoorM22
namespace Go.Proofs.YtkbinfhclaafhaaGreatDoor
open Go.RowKit
attribute [local go_sem ↓] Go.wp_at_zero Go.wp_at_succ
theorem ints_get {w : World} {b off : Nat} {l : List Int} (h : IntsAt w b off l) (j : Nat) (u : Value) (hj : (iv l)[j]? = some u) : w.cell? ⟨b, off + j, none⟩ = some u := by
 have hlt : j < l.length := by have := (List.getElem?_eq_some_iff.1 hj).1; rwa [iv_length] at this
 rw [h j hlt, ← hj]
 simp [iv, List.getD_eq_getElem?_getD, List.getElem?_eq_getElem hlt]
theorem iv_one {l : List Int} : ∀ u ∈ iv l, u.oneCell' = true := fun u hu => by
 simp only [iv, List.mem_map] at hu
 obtain ⟨x, _, rfl⟩ := hu
 rfl
set_option maxRecDepth 100000 in
set_option maxHeartbeats 32000000 in
theorem bseqs_row (w : World) (L : LP) (ks ls : List Int) (h : LX w L ks ls) (hn : L.n ≤ 1000) (hlv : ∀ p, 0 ≤ ls.getD p 0 ∧ ls.getD p 0 ≤ 1000) (hp : 0 ≤ L.p ∧ L.p ≤ 1000) :
  Calls Tryz.prog 87 #[.pointer (some ⟨L.lb, 0, none⟩)] w fun e w' => ∃ av qs, e = .returned av ∧ SeqsOk w' w.heap.size L ks ls av qs ∧ qs.map SqD.at' = ((runsL ls (xLeft L.cs)).filter (begsB L.cs)).map (chainF L.cs (runsL ls (xLeft L.cs)) L.n) ∧ Below w.heap.size w w' := by
 obtain ⟨iI, hiI, hzI0, hzI1, hzI2⟩ := info_parts Tryz.infoI8
 obtain ⟨iP, hiP, hzP0, hzP1, hzP2⟩ := info_parts Tryz.infoSqP
 have hcn := h.len
 have HX : Hid (∀ W, Below w.heap.size w W → LX W L ks ls) := fun W hb => h.below hb
 have hRO : RunsOk L.n (runsL ls (xLeft L.cs)) := by have := runsOk_of ls (xLeft L.cs); rw [h.kl.2] at this; exact this
 have HMem : Hid (∀ k, k < (leftP (xLeft L.cs) L.n).length → (leftP (xLeft L.cs) L.n).getD k 0 < L.n) := fun k hk => (leftP_mem (getD_mem hk)).1
 have hll := leftP_len (xLeft L.cs) L.n
 have hb0 : Below w.heap.size w (w.alloc (.cells #[.pointer (some ⟨L.lb, 0, none⟩)] 136)) := (Below.refl _ _).alloc (Nat.le_refl _) _
 have HRu : Hid (Calls Tryz.prog 154 #[.pointer (some ⟨L.lb, 0, none⟩)] (w.alloc (.cells #[.pointer (some ⟨L.lb, 0, none⟩)] 136)) fun e w' => ∃ v g segs, e = .returned v ∧ RunsAt w' (w.alloc (.cells #[.pointer (some ⟨L.lb, 0, none⟩)] 136)).heap.size v g (leftP (xLeft L.cs) L.n) segs ∧ segs.map (segL (leftP (xLeft L.cs) L.n)) = runsL ls (xLeft L.cs) ∧ Below (w.alloc (.cells #[.pointer (some ⟨L.lb, 0, none⟩)] 136)).heap.size (w.alloc (.cells #[.pointer (some ⟨L.lb, 0, none⟩)] 136)) w') := runs_any _ L ks ls (h.below hb0) hn
 have hmm := @run_makeMap Tryz.prog
 have hcl0 : (w.alloc (.cells #[.pointer (some ⟨L.lb, 0, none⟩)] 136)).heap[w.heap.size]? = some (.cells #[.pointer (some ⟨L.lb, 0, none⟩)] 136 (0, 0)) := Array.getElem?_push_size
 have HCL0 : Hid _ := hcl0
 have HB0 : Hid (Below w.heap.size w (w.alloc (.cells #[.pointer (some ⟨L.lb, 0, none⟩)] 136))) := hb0
 clear h hb0 hcl0
 generalize leftP (xLeft L.cs) L.n = left at *
 obtain ⟨R, hR⟩ : ∃ R, R = runsL ls (xLeft L.cs) := ⟨_, rfl⟩
 rw [← hR] at HRu hRO ⊢
 clear hR
 have HRO : Hid (RunsOk L.n R) := hRO
 clear hRO
 go_enter Tryz.func87, Tryz.ntmps87
 go_wp2_with fail
 refine HRu.out.mono ?_
 rintro ev w1 ⟨rv, g, segs, rfl, hra, hsg, hb1⟩
 clear HRu
 have hz0 : (w.alloc (.cells #[.pointer (some ⟨L.lb, 0, none⟩)] 136)).heap.size = w.heap.size + 1 := by simp
 have hB1 : Below w.heap.size w w1 := HB0.out.trans (hb1.mono (by omega))
 have hl1 : w1.heap[w.heap.size]? = some (.cells #[.pointer (some ⟨L.lb, 0, none⟩)] 136 (0, 0)) := heap_keep hb1 HCL0.out
 have hra' : RunsAt w1 w.heap.size rv g left segs := ⟨own_lowB hra.row (by omega), hra.lf, hra.ok, fun hn => ⟨Nat.le_trans (by omega) (hra.lt hn).1, (hra.lt hn).2⟩, hra.ty⟩
 have hSE1 : SE ((w1.alloc (.map #[] 0)).alloc (.cells #[.map (some w1.heap.size)] 217)) w.heap.size w.heap.size (w1.heap.size + 1) w1.heap.size g L rv left segs 0 := by
  have hbb : Below w1.heap.size w1 ((w1.alloc (.map #[] 0)).alloc (.cells #[.map (some w1.heap.size)] 217)) := ((Below.refl _ _).alloc (Nat.le_refl _) _).alloc (by simp) _
  have hm1 : ((w1.alloc (.map #[] 0)).alloc (.cells #[.map (some w1.heap.size)] 217)).heap[w1.heap.size + 1]? = some (.cells #[.map (some w1.heap.size)] 217 (0, 0)) := by
   have : (w1.alloc (.map #[] 0)).heap.size = w1.heap.size + 1 := by simp
   rw [← this]; exact Array.getElem?_push_size
  refine ⟨heap_keep hbb hl1, hm1, ?_, hra'.below hbb⟩
  have : (w1.alloc (.map #[] 0)).heap[w1.heap.size]? = some (.map #[] 0) := Array.getElem?_push_size
  exact heap_keep ((Below.refl _ _).alloc (Nat.le_refl _) _) this
 have hB2 : Below w.heap.size w ((w1.alloc (.map #[] 0)).alloc (.cells #[.map (some w1.heap.size)] 217)) := (hB1.alloc hB1.size _).alloc (by simp; have := hB1.size; omega) _
 obtain ⟨ra, rc, rfl⟩ := own_form hra.row
 have HSE : Hid (SE ((w1.alloc (.map #[] 0)).alloc (.cells #[.map (some w1.heap.size)] 217)) w.heap.size w.heap.size (w1.heap.size + 1) w1.heap.size g L (.slice ra segs.length rc) left segs 0) := hSE1
 have HB2 : Hid (Below w.heap.size w ((w1.alloc (.map #[] 0)).alloc (.cells #[.map (some w1.heap.size)] 217))) := hB2
 have HSg : Hid (segs.map (segL left) = R) := hsg
 have HLow : Hid (w.heap.size ≤ w1.heap.size) := hB1.size
 have HOk : Hid (∀ ab ∈ segs, ab.1 < ab.2 ∧ ab.2 ≤ left.length) := hra.ok
 have hNs : segs.length ≤ 1000 := by
  have h1 := few_nodup R.flatten L.n HRO.out.nod (fun a ha => by obtain ⟨r, hr, ha⟩ := List.mem_flatten.1 ha; exact HRO.out.lt r hr a ha)
  have h2 : R.length ≤ R.flatten.length := by
   have : ∀ l : List (List Nat), (∀ r ∈ l, r ≠ []) → l.length ≤ l.flatten.length := by
    intro l
    induction l with
    | nil => intro _; simp
    | cons a l ih =>
     intro hl
     have h1 := ih (fun r hr => hl r (by simp [hr]))
     have h2 : 0 < a.length := List.length_pos_iff.2 (hl a (by simp))
     simp only [List.length_cons, List.flatten_cons, List.length_append]
     omega
   exact this R HRO.out.ne
  have h3 : segs.length = R.length := by rw [← hsg, List.length_map]
  omega
 clear hra hsg hb1 hB1 hl1 hra' hSE1 hB2 hz0
 obtain ⟨lx, hlx⟩ : ∃ lx, lx = w.heap.size := ⟨_, rfl⟩
 obtain ⟨mb, hmb⟩ : ∃ mb, mb = w1.heap.size := ⟨_, rfl⟩
 obtain ⟨mx, hmx⟩ : ∃ mx, mx = w1.heap.size + 1 := ⟨_, rfl⟩
 obtain ⟨N, hN⟩ : ∃ N, N = segs.length := ⟨_, rfl⟩
 go_wp2
 generalize (w1.alloc (.map #[] 0)).alloc (.cells #[.map (some w1.heap.size)] 217) = W2 at *
 have HSE' : Hid (SE W2 w.heap.size lx mx mb g L (.slice ra N rc) left segs 0) := by rw [hlx, hmx, hmb, hN]; exact HSE.out
 have HLo : Hid (w.heap.size ≤ mb) := by show _ ≤ _; rw [hmb]; exact HLow.out
 rw [← hmx, ← hlx, ← hN]
 rw [← hN] at hNs
 have HNl : Hid (segs.length = N) := hN.symm
 clear HSE HLow hlx hmb hmx hN hmm HCL0 HB0
 go_loopg [18] N (fun gk iv W => ∃ k : Nat, k ≤ N ∧ gk = N - k ∧ iv = .int .i64 k ∧ Below w.heap.size w W ∧ SE W w.heap.size lx mx mb g L (.slice ra N rc) left segs k)
 case atStart => exact ⟨0, by omega, rfl, rfl, HB2.out, HSE'.out⟩
 case round =>
  clear HB2 HSE'
  obtain ⟨k, hk, rfl, rfl, hb, hS⟩ := hrel
  by_cases hlt : k < N
  ·have hks : k < segs.length := by rw [HNl.out]; exact hlt
   have hsl := hS.r.row
   rw [HNl.out] at hsl
   obtain ⟨rg, rcap, hre, _, _, _⟩ := own_some hsl (by omega)
   have hre2 : ra = some ⟨rg, 0, none⟩ := by simpa using (show ra = some ⟨rg, 0, none⟩ ∧ rc = rcap by simpa using hre).1
   subst hre2
   have c1 : wr.cell? ⟨rg, k, none⟩ = some (segV g (segs.getD k (0, 0))) := by
    rw [World.ownsRow.cellAt hsl k (by omega), List.getElem?_map, List.getElem?_eq_getElem hks, List.getD_eq_getElem?_getD, List.getElem?_eq_getElem hks]; rfl
   have hup := beg_store (w := wr.drew) hks hS.mp HOk.out (by rw [HSg.out]; exact HRO.out)
   obtain ⟨hab1, hab2⟩ := HOk.out _ (getD_mem (d := (0, 0)) hks)
   have c2 := hS.r.lf (segs.getD k (0, 0)).1 (by rw [nl_length]; omega)
   rw [Nat.zero_add, nl_getD _ _ (by omega)] at c2
   have c3 := hS.m
   have HS2 : Hid (SE (ChangeMaps.setBlock wr.drew mb (.map (begE g left (segs.take (k + 1))).toArray (k + 1))) w.heap.size lx mx mb g L (.slice (some ⟨rg, 0, none⟩) N rc) left segs (k + 1)) := (hS.below (Below.refl _ _).drew).store
   have HB : Hid (Below w.heap.size w (ChangeMaps.setBlock wr.drew mb (.map (begE g left (segs.take (k + 1))).toArray (k + 1)))) := below_setBlock hb.drew HLo.out _
   have hkN : (k : Int) < (N : Int) := by omega
   clear hS hb hsl hre
   generalize ChangeMaps.setBlock wr.drew mb (.map (begE g left (segs.take (k + 1))).toArray (k + 1)) = W3 at *
   generalize segs.getD k (0, 0) = ab at *
   obtain ⟨a, b⟩ := ab
   simp only [segV] at c1 hup c2 hab1 hab2
   generalize left.getD a 0 = hd at *
   obtain ⟨l, hl⟩ : ∃ l, l = b - a := ⟨_, rfl⟩
   rw [← hl] at c1 hup
   have hl0 : (0 : Int) < (l : Int) := by omega
   clear hl hab1 hab2
   go_wp2
   go_region
   all_goals
    go_wp2
    go_roundg (N - (k + 1))
    case measure => omega
    case rel => exact ⟨k + 1, by omega, rfl, by go_num, HB.out, HS2.out⟩
  ·obtain rfl : k = N := by omega
   have hkN : ¬ (k : Int) < (k : Int) := by omega
   have HB : Hid (Below w.heap.size w wr) := hb
   have HS : Hid (SE wr w.heap.size lx mx mb g L (.slice ra k rc) left segs k) := hS
   clear hb hS
   have hen := callFunc_enter Tryz.func155 (by kernel_rfl) (by kernel_rfl)
   have htk : segs.take k = segs := List.take_of_length_le (by rw [HNl.out]; exact Nat.le_refl _)
   have HNx : Hid (∀ (W : World), Below w.heap.size w W → SE W w.heap.size lx mx mb g L (.slice ra k rc) left segs k → ∀ gp op m cp last, 0 < m → m ≤ 1000 → W.cell? ⟨gp, op + (m - 1), none⟩ = some (.int .i64 ((last : Nat) : Int)) → last < L.n → Calls Tryz.prog 155 #[.slice (some ⟨gp, op, none⟩) m cp, .pointer (some ⟨mx, 0, none⟩), .pointer (some ⟨lx, 0, none⟩)] W fun e w' => e = .returned (runV g segs (nextRun L.cs R last)) ∧ Below W.heap.size W w') := fun W hb hS gp op m cp last h1 h2 h3 h4 => by
    have hm := hS.mp
    rw [htk, ← HNl.out] at hm
    have := runNext_any W L ks ls (HX.out W hb) lx mx mb g gp op m cp last left segs hS.l hS.m hm HOk.out (by rw [HSg.out]; exact HRO.out) h1 h2 h3 h4
    rw [HSg.out] at this
    exact this
   have HRc : Hid (RunsOk L.cs.length R) := by show RunsOk _ _; rw [hcn]; exact HRO.out
   go_wp2
   go_loopg [8, 31] k (fun gk av iv W => ∃ (j : Nat) (qs : List SqD), j ≤ k ∧ gk = k - j ∧ iv = .int .i64 j ∧ Below w.heap.size w W ∧ SE W w.heap.size lx mx mb g L (.slice ra k rc) left segs k ∧ SeqsOk W w.heap.size L ks ls av qs ∧ qs.map SqD.at' = (((segs.take j).map (segL left)).filter (begsB L.cs)).map (chainF L.cs R L.n) ∧ qs.length ≤ j)
   case atStart => exact ⟨0, [], by omega, rfl, rfl, HB.out, HS.out, ⟨World.ownsRow_nil _ _ _ _, fun q hq => by simp at hq, .nil⟩, by simp, by simp⟩
   case round =>
    clear HB HS
    obtain ⟨j, qs, hj, rfl, rfl, hb, hS, hQ, hqa, hql⟩ := hrel
    obtain ⟨qa, qc, rfl⟩ := own_form hQ.row
    by_cases hlt : j < k
    ·have hks : j < segs.length := by rw [HNl.out]; exact hlt
     have hsl := hS.r.row
     rw [HNl.out] at hsl
     obtain ⟨rg, rcap, hre, _, _, _⟩ := own_some hsl (by omega)
     have hre2 : ra = some ⟨rg, 0, none⟩ := by simpa using (show ra = some ⟨rg, 0, none⟩ ∧ rc = rcap by simpa using hre).1
     subst hre2
     have c1 : wr.cell? ⟨rg, j, none⟩ = some (segV g (segs.getD j (0, 0))) := by
      rw [World.ownsRow.cellAt hsl j (by omega), List.getElem?_map, List.getElem?_eq_getElem hks, List.getD_eq_getElem?_getD, List.getElem?_eq_getElem hks]; rfl
     have hab := HOk.out _ (getD_mem (d := (0, 0)) hks)
     have c2 := hS.r.lf (segs.getD j (0, 0)).1 (by rw [nl_length]; omega)
     rw [Nat.zero_add, nl_getD _ _ (by omega)] at c2
     have c3 := hS.l
     have hhd : left.getD (segs.getD j (0, 0)).1 0 < L.n := HMem.out _ (by omega)
     have hr0 : segL left (segs.getD j (0, 0)) ∈ R := by rw [← HSg.out]; exact List.mem_map.2 ⟨_, getD_mem hks, rfl⟩
     have htake := take_map_succ (segL left) segs (0, 0) j hks
     have hge := hS.r.lt (by rintro rfl; simp at hab; omega)
     have hgt := hS.r.ty (by rintro rfl; simp at hab; omega)
     have hjN : (j : Int) < (k : Int) := by omega
     have HB : Hid (Below w.heap.size w wr) := hb
     have HS : Hid (SE wr w.heap.size lx mx mb g L (.slice (some ⟨rg, 0, none⟩) k rc) left segs k) := hS
     have HQ : Hid (SeqsOk wr w.heap.size L ks ls (.slice qa qs.length qc) qs) := hQ
     have HQA : Hid (qs.map SqD.at' = (((segs.take j).map (segL left)).filter (begsB L.cs)).map (chainF L.cs R L.n)) := hqa
     have hlen := (segL_head hab).2.2
     have hhead := (segL_head hab).1
     have hne := (segL_head hab).2.1
     clear hS hb hsl hre hQ hqa
     generalize segs.getD j (0, 0) = ab at *
     obtain ⟨a, b⟩ := ab
     have hlast := seg_last hab
     simp only [segV] at c1 c2 hab hhd hlen hhead
     have HTk : Hid ((segs.take (j + 1)).map (segL left) = (segs.take j).map (segL left) ++ [segL left (a, b)]) := htake
     have hbd := begsB_not L.cs (segL left (a, b)) _ hhead
     have HGo : Hid (∀ W, Below w.heap.size w W → Calls Tryz.prog 157 #[.pointer (some ⟨L.lb, 0, none⟩), .int .i64 (left.getD a 0 : Nat)] W fun e w' => e = .returned (.bool (!(begsB L.cs (segL left (a, b))))) ∧ w' = W) := fun W hW => by
      rw [hbd, Bool.not_not]
      exact goesOn_any W L ks ls (HX.out W hW) _ hhd
     have HR0 : Hid (segL left (a, b) ∈ R) := hr0
     have HLst : Hid ((segL left (a, b)).getLastD 0 = left.getD (b - 1) 0) := hlast
     have hb1n : left.getD (b - 1) 0 < L.n := HMem.out _ (by omega)
     have HPl : Hid (PlA wr.drew w.heap.size wr.heap.size g a (b - a) (b - a) (segL left (a, b))) := by
      obtain ⟨cs, hc⟩ := hgt
      refine ⟨?_, ⟨cs, _, hc⟩, hge.1, hlen, .inl rfl⟩
      have := (HS.out.below (Below.refl _ _).drew).r.lf.sub b a (by rw [nl_length]; exact hab.2)
      rw [Nat.zero_add, ← nl_seg] at this
      exact this
     have cL : wr.drew.cell? ⟨g, a + (b - a - 1), none⟩ = some (.int .i64 ((left.getD (b - 1) 0 : Nat) : Int)) := by
      have := (HS.out.below (Below.refl _ _).drew).r.lf (b - 1) (by rw [nl_length]; omega)
      rw [Nat.zero_add, nl_getD _ _ (by omega)] at this
      rw [show a + (b - a - 1) = b - 1 by omega]
      exact this
     have HCL : Hid _ := cL
     obtain ⟨l, hl⟩ : ∃ l, l = b - a := ⟨_, rfl⟩
     rw [← hl] at c1 HPl HCL hlen
     have hl0 : 0 < l := by omega
     have hl0' : (0 : Int) < (l : Int) := by omega
     have hl1 : l ≤ 1000 := by omega
     clear hlast hbd hr0 hge hgt htake cL hab hl
     generalize hhdE : left.getD a 0 = hd at *
     generalize left.getD (b - 1) 0 = lst at *
     generalize segL left (a, b) = r0 at *
     go_wp2
     cases hbg : begsB L.cs r0
     ·rw [hbg] at HGo
      have HF : Hid (((((segs.take (j + 1)).map (segL left)).filter (begsB L.cs)).map (chainF L.cs R L.n)) = (((segs.take j).map (segL left)).filter (begsB L.cs)).map (chainF L.cs R L.n)) := by
       show _ = _
       rw [HTk.out, List.filter_append, List.filter_cons, hbg]
       simp
      go_region_held3 (fun w' => w'.cell? ⟨lx, 0, none⟩ = some (.pointer (some ⟨L.lb, 0, none⟩)) ∧ w'.cell? ⟨g, a, none⟩ = some (.int .i64 ((hd : Nat) : Int))) (go_keep) (first | (go_at_call 157; refine (HGo.out _ HB.out.drew).mono ?_; rintro ev wx ⟨rfl, rfl⟩))
      all_goals
       go_wp2
       go_roundg (k - (j + 1))
       case measure => omega
       case rel => exact ⟨j + 1, qs, by omega, rfl, by go_num, HB.out.drew, HS.out.below (Below.refl _ _).drew, HQ.out.below (Below.refl _ _).drew, by rw [HF.out]; exact HQA.out, by omega⟩
     ·rw [hbg] at HGo
      have HF : Hid (((((segs.take (j + 1)).map (segL left)).filter (begsB L.cs)).map (chainF L.cs R L.n)) = (((segs.take j).map (segL left)).filter (begsB L.cs)).map (chainF L.cs R L.n) ++ [chainF L.cs R L.n r0]) := by
       show _ = _
       rw [HTk.out, List.filter_append, List.filter_cons, hbg]
       simp
      have HBg : Hid (begsB L.cs r0 = true) := hbg
      clear hbg
      go_region_held3 (fun w' => w'.cell? ⟨lx, 0, none⟩ = some (.pointer (some ⟨L.lb, 0, none⟩)) ∧ w'.cell? ⟨g, a, none⟩ = some (.int .i64 ((hd : Nat) : Int))) (go_keep) (first | (go_at_call 157; refine (HGo.out _ HB.out.drew).mono ?_; rintro ev wx ⟨rfl, rfl⟩))
      all_goals
       have HBi : Hid (Below w.heap.size w wr.drew) := HB.out.drew
       have HSi : Hid (SE wr.drew w.heap.size lx mx mb g L (.slice (some ⟨rg, 0, none⟩) k rc) left segs k) := HS.out.below (Below.refl _ _).drew
       have HQi : Hid (SeqsOk wr.drew w.heap.size L ks ls (.slice qa qs.length qc) qs) := HQ.out.below (Below.refl _ _).drew
       have HPl' : Hid (PlA wr.drew w.heap.size wr.drew.heap.size g a l l r0) := HPl.out
       clear HB HS HQ HPl c1 c2 c3
       generalize wr.drew = Wi at *
       obtain ⟨mv0, hmv0⟩ : ∃ mv0, mv0 = runV g segs (nextRun L.cs R (r0.getLastD 0)) := ⟨_, rfl⟩
       have HMv : Hid (mv0 = runV g segs (nextRun L.cs R (r0.getLastD 0))) := hmv0
       have HNi : Hid (Calls Tryz.prog 155 #[.slice (some ⟨g, a, none⟩) l l, .pointer (some ⟨mx, 0, none⟩), .pointer (some ⟨lx, 0, none⟩)] Wi fun e w' => e = .returned mv0 ∧ Below Wi.heap.size Wi w') := by
        have := HNx.out Wi HBi.out HSi.out g a l l lst hl0 hl1 HCL.out hb1n
        rw [← HLst.out, ← hmv0] at this
        exact this
       clear hmv0
       go_wp2_with fail
       refine HNi.out.mono ?_
       rintro ev W5 ⟨rfl, hb5⟩
       have HB5 : Hid (Below Wi.heap.size Wi W5) := hb5
       clear HNi hb5 HCL HGo
       go_wp2
       go_loopg [11, 12] (L.n - r0.length) (fun gk pv mv W => ∃ (f : Nat) (at' : List Nat) (gp op m cp : Nat), at' = chainF L.cs R f r0 ∧ gk = L.n - at'.length ∧ f + 1 ≤ at'.length ∧ pv = .slice (some ⟨gp, op, none⟩) m cp ∧ mv = runV g segs (nextRun L.cs R (at'.getLastD 0)) ∧ Below Wi.heap.size Wi W ∧ PlA W w.heap.size Wi.heap.size gp op m cp at')
       case atStart => exact ⟨0, r0, g, a, l, l, rfl, rfl, by rw [hlen]; omega, rfl, HMv.out, HB5.out, HPl'.out.below HB5.out⟩
       case round =>
        clear HB5 HPl'
        obtain ⟨f, at', gp, op, m, cp, hat, rfl, hfl, rfl, rfl, hb, hP⟩ := hrel
        have hlen2 : at'.length ≤ L.n := by rw [hat, ← hcn]; exact chainR_len HRc.out f HR0.out HBg.out
        have hatn : ∀ p ∈ at', p < L.n := by rw [hat, ← hcn]; exact chain_lt HRc.out HR0.out f
        have hm := hP.len
        have hBw : Below w.heap.size w wr := HBi.out.trans (hb.mono HBi.out.size)
        have hSw := HSi.out.below hb
        cases hnx : nextRun L.cs R (at'.getLastD 0) with
        | none =>
         rw [show runV g segs none = Value.slice none 0 0 from rfl]
         have HCh : Hid (chainF L.cs R L.n r0 = at') := by
          have := chainF_stop (a := f) (p := r0) (by rw [← hat]; exact hnx) (L.n - f)
          rw [show f + (L.n - f) = L.n by omega, ← hat] at this
          exact this
         have HNs : Hid (Calls Tryz.prog 158 #[.pointer (some ⟨L.lb, 0, none⟩), .slice (some ⟨gp, op, none⟩) m cp] wr fun e w' => ∃ sb gr cr gc cc gb, e = .returned (.pointer (some ⟨sb, 0, none⟩)) ∧
           SqC w' wr.heap.size sb gc m cc (.slice (some ⟨gp, op, none⟩) m cp) (.slice (some ⟨gr, 0, none⟩) m cr) (.slice (some ⟨gb, 0, none⟩) m m) (ls.getD (at'.headD 0) 0) (sideS (ls.getD (at'.headD 0) 0) (befF ls (xLeft L.cs) L.p (at'.headD 0))) (sideS (ls.getD (at'.headD 0) 0) (behS L.cs ls (xLeft L.cs) L.p (at'.getLastD 0))) (gath ks at') ∧
           w'.ownsRow wr.heap.size 21 1 (.slice (some ⟨gr, 0, none⟩) m cr) m (rv32 (gath L.rs at')) ∧ RowAt w' wr.heap.size 108 gb m (iv (gath ks at')) ∧ gb ≠ gc ∧ wr.heap.size ≤ sb ∧ sb < w'.heap.size ∧ Below wr.heap.size wr w') :=
          newSeq_row wr L ks ls (HX.out wr hBw) hn gp op m cp at' hP.pl hm (by omega) (by omega) hatn hlv hp
         have HPA : Hid (PlA wr w.heap.size Wi.heap.size gp op m cp at') := hP
         have HBw : Hid (Below w.heap.size w wr) := hBw
         have HSw : Hid (SE wr w.heap.size lx mx mb g L (.slice (some ⟨rg, 0, none⟩) k rc) left segs k) := hSw
         have HQw : Hid (SeqsOk wr w.heap.size L ks ls (.slice qa qs.length qc) qs) := HQi.out.below hb
         have hlx' := hSw.l
         have hm0 : 0 < m := by omega
         clear hnx hat hP hb hBw hSw hatn HQi HSi HBi
         go_wp2_with fail
         refine HNs.out.mono ?_
         rintro ev W6 ⟨sb, gr, cr, gc, cc, gb, rfl, hsq, hru, hbe, hne6, hsb, hsbz, hb6⟩
         clear HNs
         have hz6 := HBw.out.size
         have hQ6 := HQw.out.below hb6
         have hOk6 : SeqOk W6 w.heap.size L ks ls ⟨sb, gr, cr, gc, cc, gb, gp, op, cp, m, at'⟩ := by
          have hp6 := HPA.out.below hb6
          exact ⟨⟨hsq.cell, own_lowB hsq.row hz6⟩, own_lowB hru hz6, own_lowB hbe hz6, hp6.pl, hp6.ty, ⟨hp6.lo, Nat.le_trans hz6 hsb⟩, hne6, hm, hm0⟩
         have hap6 : ∀ q' ∈ qs, Apart q' ⟨sb, gr, cr, gc, cc, gb, gp, op, cp, m, at'⟩ := fun q' hq' => by
          have h1 := (HQw.out.all q' hq').sq.row.lt q'.gc rfl
          have h2 := World.ownsRow.lt (HQw.out.all q' hq').be q'.gb rfl
          have h3 := hsq.row.lt gc rfl
          have h4 := World.ownsRow.lt hbe gb rfl
          refine ⟨?_, ?_, ?_⟩ <;> simp only <;> omega
         have HOk6 : Hid _ := hOk6
         have HAp6 : Hid _ := hap6
         have HQ6 : Hid (SeqsOk W6 w.heap.size L ks ls (.slice qa qs.length qc) qs) := hQ6
         have HB6 : Hid (Below w.heap.size w W6) := HBw.out.trans (hb6.mono hz6)
         have HS6 : Hid (SE W6 w.heap.size lx mx mb g L (.slice (some ⟨rg, 0, none⟩) k rc) left segs k) := HSw.out.below hb6
         have hrow6 := hQ6.row
         have hbz6 := HB6.out.size
         clear hsq hru hbe hne6 hsb hsbz hb6 hQ6 hOk6 hap6
         go_wp2_with (at_builtin; refine wpList_push2 _ rfl _ _ 144 rfl w.heap.size 146 iP (.pointer none) 8 Tryz.underlying144 hiP hzP0 hzP1 hzP2 rfl (by decide) _ _ _ rfl hrow6 _ _ rfl rfl (by omega) hbz6 ?_)
         intro v7 w7 hown7 hg7
         have HQ7 : Hid (SeqsOk w7 w.heap.size L ks ls v7 (qs ++ [⟨sb, gr, cr, gc, cc, gb, gp, op, cp, m, at'⟩])) := HQ6.out.push HOk6.out HAp6.out hown7 hg7
         have HB7 : Hid (Below w.heap.size w w7) := HB6.out.grown hg7 hbz6 (fun y hy => (hrow6.lt y hy).1)
         have HS7 : Hid (SE w7 w.heap.size lx mx mb g L (.slice (some ⟨rg, 0, none⟩) k rc) left segs k) := by
          exact HS6.out.app hrow6 hg7
         clear hown7 hg7 hrow6
         go_wp2
         go_roundg (k - (j + 1))
         case measure => omega
         case rel => exact ⟨j + 1, _, by omega, rfl, by go_num, HB7.out, HS7.out, HQ7.out, by rw [HF.out, List.map_append, HQA.out, HCh.out]; rfl, by rw [List.length_append, List.length_singleton]; omega⟩
        | some k' =>
         obtain ⟨hkR, _, _⟩ := nextRun_some hnx
         have hks' : k' < segs.length := by rw [← HSg.out, List.length_map] at hkR; exact hkR
         have hab' := HOk.out _ (getD_mem (d := (0, 0)) hks')
         have hrk := getD_map_seg left segs k' hks'
         rw [HSg.out] at hrk
         have hgo := chainF_go (a := f) (p := r0) (by rw [← hat]; exact hnx)
         rw [← hat, hrk] at hgo
         obtain ⟨a', b', habE⟩ : ∃ a' b', segs.getD k' (0, 0) = (a', b') := ⟨_, _, rfl⟩
         obtain ⟨l', hl'⟩ : ∃ l', l' = b' - a' := ⟨_, rfl⟩
         have hrv : runV g segs (some k') = Value.slice (some ⟨g, a', none⟩) l' l' := by rw [runV, habE, segV, hl']
         rw [hrv]
         rw [habE] at hab' hgo
         have hlr' := (segL_head hab').2.2
         have hner' := (segL_head hab').2.1
         have hlst0 := seg_last hab'
         simp only at hab' hlr'
         rw [← hl'] at hlr'
         have hlen3 : (at' ++ segL left (a', b')).length ≤ L.n := by rw [← hgo, ← hcn]; exact chainR_len HRc.out (f + 1) HR0.out HBg.out
         rw [List.length_append, hlr'] at hlen3
         have hnews : IntsAt wr g a' (nl (segL left (a', b'))) := by
          have := hSw.r.lf.sub b' a' (by rw [nl_length]; exact hab'.2)
          rw [Nat.zero_add, ← nl_seg] at this
          exact this
         obtain ⟨lst', hlst'⟩ : ∃ lst', lst' = left.getD (b' - 1) 0 := ⟨_, rfl⟩
         have hlstn : lst' < L.n := by rw [hlst']; exact HMem.out _ (by omega)
         obtain ⟨mv1, hmv1⟩ : ∃ mv1, mv1 = runV g segs (nextRun L.cs R lst') := ⟨_, rfl⟩
         have HM1 : Hid (mv1 = runV g segs (nextRun L.cs R ((at' ++ segL left (a', b')).getLastD 0))) := by show _ = _; rw [lastC_app _ _ hner', hlst0, ← hlst']; exact hmv1
         have HAt : Hid (at' ++ segL left (a', b') = chainF L.cs R (f + 1) r0) := hgo.symm
         have HBw : Hid (Below w.heap.size w wr) := hBw
         have hbz : Wi.heap.size ≤ wr.heap.size := hb.size
         have hl0'' : 0 < l' := by omega
         clear hrk hgo hrv hnx hat habE hner' hlst0 hkR hks' hatn hSw hBw
         generalize segL left (a', b') = r' at *
         obtain ⟨hPp, _, _, _, hPf⟩ := hP
         have HE' : Hid ((l' = b' - a' ∧ a' < b' ∧ b' ≤ left.length) ∧ mv1 = runV g segs (nextRun L.cs R lst') ∧ lst' = left.getD (b' - 1) 0 ∧ r'.length = l' ∧ at'.length = m ∧ m + l' ≤ L.n ∧ lst' < L.n) := ⟨⟨hl', hab'⟩, hmv1, hlst', hlr', hm, by omega, hlstn⟩
         have hml : m + l' ≤ 1000 := by omega
         have hl0i : (0 : Int) < (l' : Int) := by omega
         clear hl' hab' hmv1 hlst' hlr' hm hlstn hlen3
         rcases hPf with hcm | ⟨hop, hown⟩
         ·subst hcm
          go_wp2_with (at_builtin; refine wpList_append_grows _ rfl _ _ 31 rfl 3 iI (.int .i64 0) 1 8 Tryz.underlying31 hiI hzI0 hzI1 hzI2 rfl (by decide) (some ⟨gp, op, none⟩) cp cp (iv (nl at')) rfl (fun h => by cases h) (by rw [iv_length, nl_length, HE'.out.2.2.2.2.1]; omega) (fun bb hbb j u hj => by cases hbb; rw [Addr.add_lit]; exact ints_get hPp j u hj) ⟨g, a', none⟩ l' l' (iv (nl r')) rfl (by rw [iv_length, nl_length, HE'.out.2.2.2.1]; omega) (fun j u hj => by rw [Addr.add_lit]; exact ints_get hnews j u hj) iv_one (by omega) (by unfold maxLen; omega) (by omega) ?_)
          intro v6 w6 hown6 hg6
          have hap : iv (nl at') ++ iv (nl r') = iv (nl (at' ++ r')) := by simp [iv, nl]
          rw [hap] at hown6
          obtain ⟨g6, c6, rfl, _, _, _⟩ := own_some hown6 (by omega)
          have HB6 : Hid (Below Wi.heap.size Wi w6) := hb.grown hg6 hbz (fun y hy => by cases hy)
          have HP6 : Hid (PlA w6 w.heap.size Wi.heap.size g6 0 (cp + l') c6 (at' ++ r')) := PlA.own (own_lowB hown6 hbz) HBi.out.size
          clear hown6 hg6 hap hnews HBw
          have HS6 : Hid (SE w6 w.heap.size lx mx mb g L (.slice (some ⟨rg, 0, none⟩) k rc) left segs k) := HSi.out.below HB6.out
          have HN6 : Hid (Calls Tryz.prog 155 #[.slice (some ⟨g, a', none⟩) l' l', .pointer (some ⟨mx, 0, none⟩), .pointer (some ⟨lx, 0, none⟩)] w6 fun e w' => e = .returned mv1 ∧ Below w6.heap.size w6 w') := by
           have he := HE'.out
           have hc : w6.cell? ⟨g, a' + (l' - 1), none⟩ = some (.int .i64 ((lst' : Nat) : Int)) := by
            have := HS6.out.r.lf (b' - 1) (by rw [nl_length]; omega)
            rw [Nat.zero_add, nl_getD _ _ (by omega)] at this
            rw [show a' + (l' - 1) = b' - 1 by omega, he.2.2.1]
            exact this
           have := HNx.out w6 (HBi.out.trans (HB6.out.mono HBi.out.size)) HS6.out g a' l' l' lst' (by omega) (by omega) hc he.2.2.2.2.2.2
           rw [← he.2.1] at this
           exact this
          have HLr : Hid (r'.length = l' ∧ at'.length = cp ∧ cp + l' ≤ L.n) := ⟨HE'.out.2.2.2.1, HE'.out.2.2.2.2.1, HE'.out.2.2.2.2.2.1⟩
          go_wp2_with fail
          refine HN6.out.mono ?_
          rintro ev W7 ⟨rfl, hb7⟩
          have HB7 : Hid (Below Wi.heap.size Wi W7) := HB6.out.trans (hb7.mono HB6.out.size)
          have HP7 : Hid (PlA W7 w.heap.size Wi.heap.size g6 0 (cp + l') c6 (at' ++ r')) := HP6.out.below hb7
          clear HN6 hb7
          go_wp2
          go_roundg (L.n - (at' ++ r').length)
          case measure => have h1 := HLr.out; rw [List.length_append, h1.1, h1.2.1]; omega
          case rel => exact ⟨f + 1, at' ++ r', g6, 0, cp + l', c6, HAt.out, rfl, by have h1 := HLr.out; rw [List.length_append, h1.1]; omega, rfl, HM1.out, HB7.out, HP7.out⟩
         ·subst hop
          go_wp2_with (at_builtin; refine wpList_append_own _ rfl _ _ 31 rfl Wi.heap.size 3 iI (.int .i64 0) 1 8 Tryz.underlying31 hiI hzI0 hzI1 hzI2 rfl (by decide) (.slice (some ⟨gp, 0, none⟩) m cp) m (iv (nl at')) rfl hown ⟨g, a', none⟩ l' l' (iv (nl r')) rfl (by rw [iv_length, nl_length, HE'.out.2.2.2.1]; omega) (fun j u hj => by rw [Addr.add_lit]; exact ints_get hnews j u hj) iv_one (by unfold maxLen; omega) (by omega) hbz ?_)
          intro v6 w6 hown6 hg6 _
          have hap : iv (nl at') ++ iv (nl r') = iv (nl (at' ++ r')) := by simp [iv, nl]
          rw [hap] at hown6
          obtain ⟨g6, c6, rfl, _, _, _⟩ := own_some hown6 (by omega)
          have HB6 : Hid (Below Wi.heap.size Wi w6) := hb.grown hg6 hbz (fun y hy => (hown.lt y hy).1)
          have HP6 : Hid (PlA w6 w.heap.size Wi.heap.size g6 0 (m + l') c6 (at' ++ r')) := PlA.own hown6 HBi.out.size
          clear hown6 hg6 hap hnews HBw
          have HS6 : Hid (SE w6 w.heap.size lx mx mb g L (.slice (some ⟨rg, 0, none⟩) k rc) left segs k) := HSi.out.below HB6.out
          have HN6 : Hid (Calls Tryz.prog 155 #[.slice (some ⟨g, a', none⟩) l' l', .pointer (some ⟨mx, 0, none⟩), .pointer (some ⟨lx, 0, none⟩)] w6 fun e w' => e = .returned mv1 ∧ Below w6.heap.size w6 w') := by
           have he := HE'.out
           have hc : w6.cell? ⟨g, a' + (l' - 1), none⟩ = some (.int .i64 ((lst' : Nat) : Int)) := by
            have := HS6.out.r.lf (b' - 1) (by rw [nl_length]; omega)
            rw [Nat.zero_add, nl_getD _ _ (by omega)] at this
            rw [show a' + (l' - 1) = b' - 1 by omega, he.2.2.1]
            exact this
           have := HNx.out w6 (HBi.out.trans (HB6.out.mono HBi.out.size)) HS6.out g a' l' l' lst' (by omega) (by omega) hc he.2.2.2.2.2.2
           rw [← he.2.1] at this
           exact this
          have HLr : Hid (r'.length = l' ∧ at'.length = m ∧ m + l' ≤ L.n) := ⟨HE'.out.2.2.2.1, HE'.out.2.2.2.2.1, HE'.out.2.2.2.2.2.1⟩
          go_wp2_with fail
          refine HN6.out.mono ?_
          rintro ev W7 ⟨rfl, hb7⟩
          have HB7 : Hid (Below Wi.heap.size Wi W7) := HB6.out.trans (hb7.mono HB6.out.size)
          have HP7 : Hid (PlA W7 w.heap.size Wi.heap.size g6 0 (m + l') c6 (at' ++ r')) := HP6.out.below hb7
          clear HN6 hb7
          go_wp2
          go_roundg (L.n - (at' ++ r').length)
          case measure => have h1 := HLr.out; rw [List.length_append, h1.1, h1.2.1]; omega
          case rel => exact ⟨f + 1, at' ++ r', g6, 0, m + l', c6, HAt.out, rfl, by have h1 := HLr.out; rw [List.length_append, h1.1]; omega, rfl, HM1.out, HB7.out, HP7.out⟩
    ·obtain rfl : j = k := by omega
     have hjN : ¬ (j : Int) < (j : Int) := by omega
     have HB : Hid (Below w.heap.size w wr) := hb
     have HQ : Hid (SeqsOk wr w.heap.size L ks ls (.slice qa qs.length qc) qs) := hQ
     have HQA : Hid (qs.map SqD.at' = (R.filter (begsB L.cs)).map (chainF L.cs R L.n)) := by
      show _ = _
      rw [hqa, htk, HSg.out]
     clear hb hQ hqa hS
     go_wp2
     go_ret
     exact ⟨_, rfl, qs, HQ.out, HQA.out, HB.out⟩
end Go.Proofs.YtkbinfhclaafhaaGreatDoor
namespace Go.Proofs.YtkbinfhclaafhaaGreatDoor
open Go.RowKit
set_option maxRecDepth 100000 in
theorem found_nil (w : World) : Calls Tryz.prog 70 #[.slice none 0 0] w fun e w' => e = .returned (.int .i64 0) ∧ w' = w := by
 go_enter Tryz.func70, Tryz.ntmps70
 go_wp2
 go_loopg [3] 0 (fun gh kv W => gh = 0 ∧ kv = .int .i64 0 ∧ W = w)
 case atStart => exact ⟨rfl, rfl, rfl⟩
 case round =>
  obtain ⟨rfl, rfl, hW⟩ := hrel
  have hx' := hW.symm
  subst hx'
  go_wp2
  go_ret
  exact ⟨rfl, rfl⟩
theorem classes_empty (a : Option Addr) (c : Nat) (w : World) :
  Calls Tryz.prog 46 #[.slice a 0 c] w fun e w' => e = .returned (.slice none 0 0) ∧ w' = w := by
 go_enter Tryz.func46, Tryz.ntmps46
 go_wp2
 refine wp_loop_rounds 1 ?_
 rw [rounds_succ]
 go_wp2
 go_ret
 exact ⟨rfl, rfl⟩
theorem mk0I (w : World) : (Instr.makeSlice 31 (.int .i64 0) (.int .i64 0)).run Tryz.prog w = .ok (.slice (some ⟨w.heap.size, 0, none⟩) 0 0) (w.alloc (.cells (madeCells #[.int .i64 0] 0) 3)) :=
 run_make_row' (P := Tryz.prog) 31 3 (.int .i64 0) 8 Tryz.underlying31 Tryz.infoI8 rfl .i64 .i64 0 (by omega) (by omega) w
theorem mk0B (w : World) : (Instr.makeSlice 36 (.int .i64 0) (.int .i64 0)).run Tryz.prog w = .ok (.slice (some ⟨w.heap.size, 0, none⟩) 0 0) (w.alloc (.cells (madeCells #[.bool false] 0) 4)) :=
 run_make_row' (P := Tryz.prog) 36 4 (.bool false) 1 Tryz.underlying36 Tryz.infoBool rfl .i64 .i64 0 (by omega) (by omega) w
set_option maxRecDepth 100000 in
set_option maxHeartbeats 4000000 in
theorem explicit_nil (para : Int) (w : World) : Calls Tryz.prog 71 #[.slice none 0 0, .int .i64 para] w fun e w' => ∃ g1 g2 g3, e = .returned (.tuple #[.slice (some ⟨g1, 0, none⟩) 0 0, .slice (some ⟨g2, 0, none⟩) 0 0, .slice (some ⟨g3, 0, none⟩) 0 0]) ∧ Below w.heap.size w w' ∧ g1 < w'.heap.size ∧ g2 < w'.heap.size ∧ g3 < w'.heap.size := by
 have hmk1 := mk0I
 have hmk2 := mk0B
 go_enter Tryz.func71, Tryz.ntmps71
 go_wp2
 obtain ⟨W1, hW1⟩ : ∃ W1, W1 = ((((w.alloc (.cells #[.int .i64 para, .int .i64 (-1), .bool false] 181)).alloc (.cells #[.slice (some ⟨w.heap.size, 0, none⟩) 1 1, .int .i64 0, .int .i64 0, .int .i64 0] 184)).alloc (.cells (madeCells #[.int .i64 0] 0) 3)).alloc (.cells (madeCells #[.int .i64 0] 0) 3)).alloc (.cells (madeCells #[.bool false] 0) 4) := ⟨_, rfl⟩
 have HB : Hid (Below w.heap.size w W1 ∧ W1.heap.size = w.heap.size + 5) := by
  rw [hW1]
  exact ⟨(((((Below.refl w.heap.size w).alloc (Nat.le_refl _) _).alloc (by simp) _).alloc (by simp; omega) _).alloc (by simp; omega) _).alloc (by simp; omega) _, by simp⟩
 rw [← hW1]
 clear hW1 hmk1 hmk2
 go_loopg [11] 0 (fun gh kv W => gh = 0 ∧ kv = .int .i64 0 ∧ W = W1)
 case atStart => exact ⟨rfl, rfl, rfl⟩
 case round =>
  obtain ⟨rfl, rfl, hW⟩ := hrel
  have hx' := hW.symm
  subst hx'
  go_wp2
  have hsz := HB.out.2
  refine bodyPost_ret (v := .tuple #[.slice (some ⟨w.heap.size + 1 + 1, 0, none⟩) 0 0, .slice (some ⟨w.heap.size + 1 + 1 + 1, 0, none⟩) 0 0, .slice (some ⟨w.heap.size + 1 + 1 + 1 + 1, 0, none⟩) 0 0]) (by simp [results, Tryz.results71, go_sem]) rfl ⟨_, _, _, rfl, HB.out.1, by omega, by omega, by omega⟩
set_option maxRecDepth 100000 in
set_option maxHeartbeats 4000000 in
theorem trailing_nil (para : Int) (w : World) (go g3 : Nat) : Calls Tryz.prog 74 #[.slice none 0 0, .slice (some ⟨go, 0, none⟩) 0 0, .slice (some ⟨g3, 0, none⟩) 0 0, .int .i64 para] w fun e w' => e = .returned (.slice (some ⟨go, 0, none⟩) 0 0) ∧ Below w.heap.size w w' := by
 have hmk2 := mk0B
 go_enter Tryz.func74, Tryz.ntmps74
 go_wp2
 obtain ⟨W1, hW1⟩ : ∃ W1, W1 = w.alloc (.cells (madeCells #[.bool false] 0) 4) := ⟨_, rfl⟩
 have HB : Hid (Below w.heap.size w W1) := by rw [hW1]; exact (Below.refl _ _).alloc (Nat.le_refl _) _
 rw [← hW1]
 clear hW1 hmk2
 go_loopg [10, 11] 0 (fun gh ov kv W => gh = 0 ∧ ov = .bool true ∧ kv = .int .i64 (-1) ∧ W = W1)
 case atStart => exact ⟨rfl, rfl, rfl, rfl⟩
 case round =>
  obtain ⟨rfl, rfl, rfl, hW⟩ := hrel
  have hx' := hW.symm
  subst hx'
  go_wp2
  go_loopg [13] 0 (fun gh kv W => gh = 0 ∧ kv = .int .i64 0 ∧ W = W1)
  case atStart => exact ⟨rfl, rfl, rfl⟩
  case round =>
   obtain ⟨rfl, rfl, hW⟩ := hrel
   have hx' := hW.symm
   subst hx'
   go_wp2
   refine bodyPost_ret (v := .slice (some ⟨go, 0, none⟩) 0 0) (by simp [results, Tryz.results74, go_sem]) rfl ⟨rfl, HB.out⟩
set_option maxRecDepth 100000 in
set_option maxHeartbeats 4000000 in
theorem sequences_nil (para : Int) (w : World) (g1 g3 : Nat) (h1 : g1 < w.heap.size) (h3 : g3 < w.heap.size) : Calls Tryz.prog 72 #[.slice none 0 0, .slice (some ⟨g1, 0, none⟩) 0 0, .slice (some ⟨g3, 0, none⟩) 0 0, .int .i64 para] w fun e w' => e = .returned (.slice none 0 0) ∧ Below w.heap.size w w' := by
 have HRun : Hid (Calls Tryz.prog 121 #[.slice (some ⟨g1, 0, none⟩) 0 0, .slice (some ⟨g3, 0, none⟩) 0 0] w fun ev w' => ∃ v : Value, ev = .returned v ∧ Below w.heap.size w w' ∧ ∃ a c, v = .slice a 0 c) :=
  (runs_row [] [] 0 g1 0 0 g3 0 0 w rfl rfl (by omega) (fun k hk => by simp at hk) (fun k hk => by simp at hk) h1 h3).mono fun ev w' ⟨v, vs, h4, h5, h6, _⟩ => ⟨v, h4, h5, own_form h6⟩
 clear h1 h3
 go_enter Tryz.func72, Tryz.ntmps72
 go_wp2_with fail
 refine HRun.out.mono ?_
 rintro ev w1 ⟨v, rfl, hb1, a, c, rfl⟩
 have HB : Hid (Below w.heap.size w w1) := hb1
 clear hb1 HRun
 go_wp2
 go_loopg [10, 11] 0 (fun gh ov kv W => gh = 0 ∧ ov = .slice none 0 0 ∧ kv = .int .i64 0 ∧ W = w1)
 case atStart => exact ⟨rfl, rfl, rfl, rfl⟩
 case round =>
  obtain ⟨rfl, rfl, rfl, hW⟩ := hrel
  have hx' := hW.symm
  subst hx'
  go_wp2
  refine bodyPost_ret (v := .slice none 0 0) (by simp [results, Tryz.results72, go_sem]) rfl ⟨rfl, HB.out⟩
set_option maxRecDepth 100000 in
set_option maxHeartbeats 8000000 in
theorem levels_nil (d : Int) (a : Option Addr) (c : Nat) (w : World) : Calls Tryz.prog 48 #[.slice a 0 c, .int .i64 d] w fun ev w' => ∃ g, ev = .returned (.slice (some ⟨g, 0, none⟩) 0 0) ∧ w'.ownsRow w.heap.size 3 1 (.slice (some ⟨g, 0, none⟩) 0 0) 0 [] ∧ Below w.heap.size w w' := by
 have hmk := mk0I
 have h3 : ((d != 0) = false) ∨ ((d != 0) = true ∧ (d != 1) = false) ∨ ((d != 0) = true ∧ (d != 1) = true) := by
  cases (d != 0) <;> cases (d != 1) <;> simp
 go_enter Tryz.func48, Tryz.ntmps48
 go_wp2_with fail
 refine (classes_empty a c w).mono ?_
 rintro ev wx ⟨rfl, hx⟩
 have hx' := hx.symm
 subst hx'
 have hcopy : ∀ (W : World) (g g1 : Nat), (Builtin.copy_ #[31, 31] 3 #[.slice (some ⟨g, 0, none⟩) 0 0, .slice (some ⟨g1, 0, none⟩) 0 0]).run Tryz.prog W = .ok (goInt 0) W := fun W g g1 => run_copy_none (P := Tryz.prog) W 31 31 3 3 _ _ 0 0 0 0 Tryz.underlying31 Tryz.sizeInt rfl
 rcases h3 with q0 | ⟨q0, q1⟩ | ⟨q0, q1⟩
 go_wp2_with fail
 rotate_left
 go_wp2_with fail
 rotate_left
 go_wp2_with fail
 refine (found_nil w).mono ?_
 rintro ev wx ⟨rfl, hx⟩
 have hx' := hx.symm
 subst hx'
 go_wp2_with fail
 all_goals
  refine (explicit_nil _ w).mono ?_
  rintro ev w2 ⟨g1, g2, g3, rfl, hb2, hg1, hg2, hg3⟩
  obtain ⟨W3, hW3⟩ : ∃ W3, W3 = w2.alloc (.cells (madeCells #[.int .i64 0] 0) 3) := ⟨_, rfl⟩
  have hb3 : Below w2.heap.size w2 W3 := by rw [hW3]; exact (Below.refl _ _).alloc (Nat.le_refl _) _
  have hz2 : w.heap.size ≤ w2.heap.size := hb2.size
  have hO3 : RowAt W3 w.heap.size 3 w2.heap.size 0 (List.replicate 0 (.int .i64 0)) := by rw [hW3]; exact RowAt.made hz2 (by omega)
  have HB3 : Hid (Below w.heap.size w W3) := hb2.trans (hb3.mono hz2)
  have HO3 : Hid (W3.ownsRow w.heap.size 3 1 (.slice (some ⟨w2.heap.size, 0, none⟩) 0 0) 0 []) := hO3
  have HZ3 : Hid (g1 < W3.heap.size ∧ g3 < W3.heap.size) := by have := hb3.size; exact ⟨by omega, by omega⟩
  clear hb2 hb3 hO3 hg1 hg2 hg3
  go_wp2_with fail
  rw [← hW3]
  clear hW3
  generalize w2.heap.size = go at *
  refine (sequences_nil _ W3 g1 g3 HZ3.out.1 HZ3.out.2).mono ?_
  rintro ev w5 ⟨rfl, hb5⟩
  have HB5 : Hid (Below w.heap.size w w5) := HB3.out.trans (hb5.mono HB3.out.size)
  have HO5 : Hid (w5.ownsRow w.heap.size 3 1 (.slice (some ⟨go, 0, none⟩) 0 0) 0 []) := own_below HO3.out hb5
  clear hb5 hmk hcopy
  go_wp2
  go_loopg [12] 0 (fun gh kv W => gh = 0 ∧ kv = .int .i64 0 ∧ W = w5)
  case atStart => exact ⟨rfl, rfl, rfl⟩
  case round =>
   obtain ⟨rfl, rfl, hW⟩ := hrel
   have hx' := hW.symm
   subst hx'
   go_wp2
   go_loopg [13] 0 (fun gh kv W => gh = 0 ∧ kv = .int .i64 0 ∧ W = w5)
   case atStart => exact ⟨rfl, rfl, rfl⟩
   case round =>
    obtain ⟨rfl, rfl, hW⟩ := hrel
    have hx' := hW.symm
    subst hx'
    go_wp2_with fail
    refine (trailing_nil _ w5 go g3).mono ?_
    rintro ev w7 ⟨rfl, hb7⟩
    have HB7 : Hid (Below w.heap.size w w7) := HB5.out.trans (hb7.mono HB5.out.size)
    have HO7 : Hid (w7.ownsRow w.heap.size 3 1 (.slice (some ⟨go, 0, none⟩) 0 0) 0 []) := own_below HO5.out hb7
    clear hb7
    go_wp2
    refine bodyPost_ret (v := .slice (some ⟨go, 0, none⟩) 0 0) (by simp [results, Tryz.results48, go_sem]) rfl ⟨go, rfl, HO7.out, HB7.out⟩
theorem cell_lt {w : World} {b k : Nat} {v : Value} (h : w.cell? ⟨b, k, none⟩ = some v) : b < w.heap.size := by
 rcases Nat.lt_or_ge b w.heap.size with h' | h'
 ·exact h'
 ·simp only [World.cell?, Array.getElem?_eq_none h'] at h; cases h
theorem levels_any (rs : List Int) (d : Int) (v : Value) (w : World) (hn : rs.length ≤ 1000) (hv : SlI w v rs) :
  Calls Tryz.prog 48 #[v, .int .i64 d] w fun ev w' => ∃ g c, ev = .returned (.slice (some ⟨g, 0, none⟩) rs.length c) ∧ w'.ownsRow w.heap.size 3 1 (.slice (some ⟨g, 0, none⟩) rs.length c) rs.length (iv (levelsL rs (rs.map cls) d)) ∧ Below w.heap.size w w' := by
 rcases hv with ⟨rfl, rfl⟩ | ⟨b, off, cap, rfl, hc⟩
 ·refine (levels_nil d none 0 w).mono ?_
  rintro ev w' ⟨g, rfl, h1, h2⟩
  refine ⟨g, 0, rfl, ?_, h2⟩
  have : levelsL [] ([].map cls) d = [] := rfl
  rw [this]; exact h1
 ·rcases Nat.eq_zero_or_pos rs.length with h0 | h0
  ·obtain rfl := List.eq_nil_of_length_eq_zero h0
   refine (levels_nil d _ cap w).mono ?_
   rintro ev w' ⟨g, rfl, h1, h2⟩
   refine ⟨g, 0, rfl, ?_, h2⟩
   have : levelsL [] ([].map cls) d = [] := rfl
   rw [this]; exact h1
  ·exact levels_row rs d rs.length b off cap w rfl hn h0 hc (cell_lt (hc 0 h0))
end Go.Proofs.YtkbinfhclaafhaaGreatDoor
