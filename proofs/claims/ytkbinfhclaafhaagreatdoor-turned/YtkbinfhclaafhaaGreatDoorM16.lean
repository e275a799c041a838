import Derived.Test.YtkbinfhclaafhaaGreatDoorM07
import Derived.Deep.RegionWith
import Derived.Deep.DeepCutAuto
import Derived.Test.YtkbinfhclaafhaaGreatDoorM15
import Derived.Laws.CopyOwn
namespace Go.Proofs.YtkbinfhclaafhaaGreatDoor
open Go.RowKit
theorem Tri.call {w0 w w' : World} {B : Nat} {tv ov rv : Value} {t o r : List Int} (h : Tri w0 w B tv ov rv t o r) (hb : Below w.heap.size w w') : Tri w0 w' B tv ov rv t o r :=
 ⟨h.below.trans (hb.mono h.base), Nat.le_trans h.base hb.size, own_below h.ht hb, own_below h.ho hb, own_below h.hr hb, h.to', h.tr, h.or'⟩
theorem Tri.write {w0 w w' : World} {B g n c : Nat} {ov rv : Value} {t t' o r : List Int} (h : Tri w0 w B (.slice (some ⟨g, 0, none⟩) n c) ov rv t o r) (hr : IRow w' B g n c t') (hg : w.grownBy w' (some g)) : Tri w0 w' B (.slice (some ⟨g, 0, none⟩) n c) ov rv t' o r := by
 have hl := hr.len
 refine ⟨h.below.grown hg h.base (fun k hk => by have := own_low h.ht k; exact this hk), Nat.le_trans h.base hg.size, ?_, own_grown h.ho hg h.to'.symm.ne, own_grown h.hr hg h.tr.symm.ne, h.to', h.tr, h.or'⟩
 rw [hl]; exact hr
theorem gath_take_succ (l : List Int) (at' : List Nat) (k : Nat) (hk : k < at'.length) : gath l (at'.take (k + 1)) = gath l (at'.take k) ++ [l.getD (at'.getD k 0) 0] := by
 unfold gath
 rw [List.take_succ_eq_append_getElem hk, List.map_append]
 simp [List.getD_eq_getElem?_getD, List.getElem?_eq_getElem hk]
theorem gath_length (l : List Int) (at' : List Nat) : (gath l at').length = at'.length := by simp [gath]
theorem own_ints {w : World} {B g n c : Nat} {l : List Int} (h : w.ownsRow B 3 1 (.slice (some ⟨g, 0, none⟩) n c) n (iv l)) : IntsAt w g 0 l := fun k hk => by
 rw [Nat.zero_add]; exact own_icell h k hk
theorem trip_take_succ (at' : List Nat) (lev : Int) (t : List Int) (j : Nat) (h1 : j < at'.length) (h2 : j < t.length) : (trip at' lev t).take (j + 1) = (trip at' lev t).take j ++ [(at'.getD j 0, lev, t.getD j 0)] := by
 have hl : j < (trip at' lev t).length := by rw [trip, List.length_map, List.length_zip]; omega
 rw [List.take_succ_eq_append_getElem hl]
 congr 1
 simp [trip, List.getD_eq_getElem?_getD, List.getElem?_eq_getElem h1, List.getElem?_eq_getElem h2]
set_option maxRecDepth 100000 in
set_option maxHeartbeats 8000000 in
theorem solve_row (rs kinds lv : List Int) (s : Sq) (n m ga oa ca gr or' cr gk ok ck gl cl B : Nat) (w : World) (hm : s.at'.length = m) (hm0 : 0 < m) (hm1 : m ≤ 100000) (hat : ∀ p ∈ s.at', p < n)
  (hl1 : 0 ≤ s.level ∧ s.level ≤ 1000) (hai : IntsAt w ga oa (nl s.at')) (hga : ga < w.heap.size) (hri : IntsAt w gr or' rs) (hgr : gr < w.heap.size) (hki : IntsAt w gk ok kinds) (hgk : gk < w.heap.size) (hrl : rs.length = n) (hkl : kinds.length = n)
  (hlv : IRow w B gl n cl lv) (hneA : ga ≠ gl) :
  Calls Tryz.prog 73 #[.agg #[.slice (some ⟨ga, oa, none⟩) m ca, .int .i64 s.level, .int .i64 s.sos, .int .i64 s.eos], .slice (some ⟨gr, or', none⟩) n cr, .slice (some ⟨gk, ok, none⟩) n ck, .slice (some ⟨gl, 0, none⟩) n cl] w fun ev w' => ev = .returned (.tuple #[]) ∧ IRow w' B gl n cl ((seqTrip rs kinds s).foldl setF lv) ∧ w.grownBy w' (some gl) := by
 obtain ⟨iI, hiI, hzI0, hzI1, hzI2⟩ := info_parts Tryz.infoI8
 obtain ⟨at', lev, sos, eos⟩ := s
 simp only at hm hat hl1 hai ⊢
 obtain ⟨q, hq⟩ : ∃ q, q = (seqTrip rs kinds ⟨at', lev, sos, eos⟩).foldl setF lv := ⟨_, rfl⟩
 rw [← hq]
 have HQ : Hid (q = (seqTrip rs kinds ⟨at', lev, sos, eos⟩).foldl setF lv) := hq
 clear hq
 have hgl : gl < w.heap.size := (World.ownsRow.lt hlv gl rfl).2
 have HM : Hid (at'.length = m ∧ (∀ p ∈ at', p < n)) := ⟨hm, hat⟩
 have HL : Hid (rs.length = n ∧ kinds.length = n) := ⟨hrl, hkl⟩
 obtain ⟨h, hh⟩ : ∃ h, h = w.heap.size := ⟨_, rfl⟩
 have hfacts : ∃ W0, W0 = w.alloc (.cells #[.slice (some ⟨ga, oa, none⟩) m ca, .int .i64 lev, .int .i64 sos, .int .i64 eos] 120) := ⟨_, rfl⟩
 obtain ⟨W0, hW0⟩ := hfacts
 have hb0 : Below w.heap.size w W0 := by rw [hW0]; exact (Below.refl _ _).alloc (Nat.le_refl _) _
 have hz0 : h < W0.heap.size := by rw [hW0, hh]; simp
 have HS0 : Hid (w.grownBy W0 (some gl) ∧ h < W0.heap.size ∧ h ≠ gl ∧ ga < W0.heap.size ∧ ga ≠ gl ∧ gr < W0.heap.size ∧ gk < W0.heap.size ∧ gl < W0.heap.size) := ⟨grown_of_below hb0, hz0, by omega, by omega, hneA, by omega, by omega, by omega⟩
 have HI0 : Hid (IntsAt W0 ga oa (nl at') ∧ IntsAt W0 gr or' rs ∧ IntsAt W0 gk ok kinds ∧ IRow W0 B gl n cl lv) := ⟨hai.stay hb0 hga, hri.stay hb0 hgr, hki.stay hb0 hgk, own_below hlv hb0⟩
 have HC0 : Hid (W0.cell? ⟨h, 0, none⟩ = some (.slice (some ⟨ga, oa, none⟩) m ca) ∧ W0.cell? ⟨h, 1, none⟩ = some (.int .i64 lev) ∧ W0.cell? ⟨h, 2, none⟩ = some (.int .i64 sos) ∧ W0.cell? ⟨h, 3, none⟩ = some (.int .i64 eos)) := by
  rw [hW0, hh]; refine ⟨?_, ?_, ?_, ?_⟩ <;> simp
 clear hai hri hki hrl hkl hlv hga hgr hgk hgl hb0 hz0 hm hat hneA
 have HC : Hid (∀ W, Below W0.heap.size W0 W → W.cell? ⟨h, 0, none⟩ = some (.slice (some ⟨ga, oa, none⟩) m ca) ∧ W.cell? ⟨h, 1, none⟩ = some (.int .i64 lev) ∧ W.cell? ⟨h, 2, none⟩ = some (.int .i64 sos) ∧ W.cell? ⟨h, 3, none⟩ = some (.int .i64 eos)) := by
  intro W hb
  have hz := HS0.out.2.1
  rw [hb.cell (p := ⟨h, 0, none⟩) hz, hb.cell (p := ⟨h, 1, none⟩) hz, hb.cell (p := ⟨h, 2, none⟩) hz, hb.cell (p := ⟨h, 3, none⟩) hz]
  exact HC0.out
 go_enter Tryz.func73, Tryz.ntmps73
 go_wp2
 rw [← hW0, ← hh]
 clear hW0 hh HC0
 go_loopg [8, 9, 10, 11] m (fun gh tv ov rv iv W => ∃ k : Nat, k ≤ m ∧ gh = m - k ∧ iv = .int .i64 k ∧ Tri W0 W W0.heap.size tv ov rv (gath kinds (at'.take k)) (gath kinds (at'.take k)) (gath rs (at'.take k)))
 case atStart => exact ⟨0, by omega, rfl, rfl, Tri.start _ _ _ (Below.refl _ _) (Nat.le_refl _)⟩
 case round =>
  obtain ⟨k, hk, rfl, rfl, hT⟩ := hrel
  by_cases hlt : k < m
  ·have HT : Hid (Tri W0 wr W0.heap.size _ _ _ (gath kinds (at'.take k)) (gath kinds (at'.take k)) (gath rs (at'.take k))) := hT
   have hkl : k < at'.length := by rw [HM.out.1]; exact hlt
   have hp : at'.getD k 0 < n := HM.out.2 _ (getD_mem0 hkl)
   have HG : Hid (gath kinds (at'.take (k + 1)) = gath kinds (at'.take k) ++ [kinds.getD (at'.getD k 0) 0] ∧ gath rs (at'.take (k + 1)) = gath rs (at'.take k) ++ [rs.getD (at'.getD k 0) 0]) := ⟨gath_take_succ _ _ _ hkl, gath_take_succ _ _ _ hkl⟩
   have HCk : Hid (∀ W, Below W0.heap.size W0 W → W.cell? ⟨h, 0, none⟩ = some (.slice (some ⟨ga, oa, none⟩) m ca) ∧ W.cell? ⟨ga, oa + k, none⟩ = some (.int .i64 (at'.getD k 0 : Nat)) ∧ W.cell? ⟨gk, ok + at'.getD k 0, none⟩ = some (.int .i64 (kinds.getD (at'.getD k 0) 0)) ∧ W.cell? ⟨gr, or' + at'.getD k 0, none⟩ = some (.int .i64 (rs.getD (at'.getD k 0) 0))) := by
    intro W hb
    refine ⟨(HC.out W hb).1, ?_, ?_, ?_⟩
    ·have := (HI0.out.1.stay hb HS0.out.2.2.2.1) k (by rw [nl_length]; exact hkl)
     rw [nl_getD _ _ hkl] at this; exact this
    ·exact (HI0.out.2.2.1.stay hb HS0.out.2.2.2.2.2.2.1) _ (by rw [HL.out.2]; exact hp)
    ·exact (HI0.out.2.1.stay hb HS0.out.2.2.2.2.2.1) _ (by rw [HL.out.1]; exact hp)
   have hlk : (gath kinds (at'.take k)).length ≤ 1000000 ∧ (gath rs (at'.take k)).length ≤ 1000000 := by rw [gath_length, gath_length, List.length_take]; omega
   generalize at'.getD k 0 = p at *
   generalize kinds.getD p 0 = kp at *
   generalize rs.getD p 0 = rp at *
   generalize gath kinds (at'.take k) = tk at *
   generalize gath rs (at'.take k) = rk at *
   obtain ⟨c0, c1, c2, c3⟩ := HCk.out wr hT.below
   have hrow := hT.ht
   have hbz := hT.base
   clear hT
   go_wp2_with (at_builtin; refine wpList_pushA _ rfl _ _ 31 rfl W0.heap.size 3 iI (.int .i64 0) 8 Tryz.underlying31 hiI hzI0 hzI1 hzI2 rfl (by decide) _ _ _ rfl hrow _ _ _ rfl rfl rfl hlk.1 hbz ?_)
   intro v1 w1 hown1 hg1 hv1
   have hT1 := HT.out.pushT hown1 hg1 hv1
   have HT1 : Hid (Tri W0 w1 W0.heap.size v1 _ _ (tk ++ [kp]) tk rk) := hT1
   clear hown1 hg1 hv1 hrow hbz c0 c1 c2 c3 HT
   obtain ⟨c0, c1, c2, c3⟩ := HCk.out w1 hT1.below
   have hrow := hT1.ho
   have hbz := hT1.base
   clear hT1
   go_wp2_with (at_builtin; refine wpList_pushA _ rfl _ _ 31 rfl W0.heap.size 3 iI (.int .i64 0) 8 Tryz.underlying31 hiI hzI0 hzI1 hzI2 rfl (by decide) _ _ _ rfl hrow _ _ _ rfl rfl rfl hlk.1 hbz ?_)
   intro v2 w2 hown1 hg1 hv1
   have hT2 := HT1.out.pushO hown1 hg1 hv1
   have HT2 : Hid (Tri W0 w2 W0.heap.size v1 v2 _ (tk ++ [kp]) (tk ++ [kp]) rk) := hT2
   clear hown1 hg1 hv1 hrow hbz c0 c1 c2 c3 HT1
   obtain ⟨c0, c1, c2, c3⟩ := HCk.out w2 hT2.below
   have hrow := hT2.hr
   have hbz := hT2.base
   clear hT2
   go_wp2_with (at_builtin; refine wpList_pushA _ rfl _ _ 31 rfl W0.heap.size 3 iI (.int .i64 0) 8 Tryz.underlying31 hiI hzI0 hzI1 hzI2 rfl (by decide) _ _ _ rfl hrow _ _ _ rfl rfl rfl hlk.2 hbz ?_)
   intro v3 w3 hown1 hg1 hv1
   have hT3 := HT2.out.pushR hown1 hg1 hv1
   have HT3 : Hid (Tri W0 w3 W0.heap.size v1 v2 v3 (tk ++ [kp]) (tk ++ [kp]) (rk ++ [rp])) := hT3
   clear hown1 hg1 hv1 hrow hbz c0 c1 c2 c3 HT2 hT3
   go_wp2
   go_roundg (m - (k + 1))
   case measure => omega
   case rel => exact ⟨k + 1, by omega, rfl, by simp, by rw [HG.out.1, HG.out.2]; exact HT3.out⟩
  ·obtain rfl : k = m := by omega
   have htk : at'.take k = at' := List.take_of_length_le (by rw [HM.out.1]; exact Nat.le_refl _)
   rw [htk] at hT
   clear htk
   have hkL : (gath kinds at').length = k ∧ (gath rs at').length = k := by rw [gath_length, gath_length, HM.out.1]; exact ⟨rfl, rfl⟩
   have HQ2 : Hid (q = (trip at' lev (neutL sos eos (lev % 2) (n0L (weakL sos (gath kinds at')) (gath kinds at') (pairsL (weakL sos (gath kinds at')) (gath rs at')) (lev % 2) sos))).foldl setF lv) := HQ.out
   clear HQ
   generalize gath kinds at' = T0 at *
   generalize gath rs at' = R0 at *
   obtain ⟨gt, ct, e1, hct, hgt, hBt⟩ := own_some hT.ht (by omega)
   obtain ⟨go, co, e2, hco, hgo, hBo⟩ := own_some hT.ho (by omega)
   obtain ⟨gq, cq, e3, hcq, hgq, hBq⟩ := own_some hT.hr (by omega)
   subst e1 e2 e3
   rw [hkL.1, hkL.2] at hT
   rw [hkL.1, hkL.2]
   have hto : gt ≠ go := fun e => hT.to' gt rfl (by rw [e]; rfl)
   have htq : gt ≠ gq := fun e => hT.tr gt rfl (by rw [e]; rfl)
   have HT : Hid (Tri W0 wr W0.heap.size (.slice (some ⟨gt, 0, none⟩) k ct) (.slice (some ⟨go, 0, none⟩) k co) (.slice (some ⟨gq, 0, none⟩) k cq) T0 T0 R0) := hT
   have HIT : Hid (IRow wr W0.heap.size gt k ct T0) := by have := hT.ht; rw [hkL.1] at this; exact this
   have HK : Hid (T0.length = k ∧ R0.length = k) := hkL
   have HNE : Hid (gt ≠ go ∧ gt ≠ gq ∧ W0.heap.size ≤ gt ∧ W0.heap.size ≤ go ∧ W0.heap.size ≤ gq) := ⟨hto, htq, hBt, hBo, hBq⟩
   obtain ⟨c0, c1, c2, c3⟩ := HC.out wr hT.below
   clear hT hkL hto htq hgt hgo hgq hBt hBo hBq hlt
   go_wp2_with fail
   refine (weak_row T0 sos _ W0.heap.size gt k ct wr HIT.out hm1 hm0).mono ?_
   rintro ev w2 ⟨rfl, hI2, hG2⟩
   have hT2 := HT.out.write hI2 hG2
   have HT2 : Hid (Tri W0 w2 W0.heap.size (.slice (some ⟨gt, 0, none⟩) k ct) (.slice (some ⟨go, 0, none⟩) k co) (.slice (some ⟨gq, 0, none⟩) k cq) (weakL sos T0) T0 R0) := hT2
   have HLT1 : Hid ((weakL sos T0).length = k) := hI2.len
   clear HT HIT c0 c1 c2 c3 hI2 hG2
   obtain ⟨c0, c1, c2, c3⟩ := HC.out w2 hT2.below
   clear hT2
   generalize weakL sos T0 = T1 at *
   obtain ⟨e, he⟩ : ∃ e, e = lev % 2 := ⟨_, rfl⟩
   obtain ⟨F, hF⟩ : ∃ F : List (Nat × Nat) → List Int, F = fun ps => n0L T1 T0 ps e sos := ⟨_, rfl⟩
   have HF : Hid (∀ (ps : List (Nat × Nat)) (j : Nat), j < ps.length → F (ps.take (j + 1)) = pairedL (F (ps.take j)) T0 (ps.getD j (0, 0)) e sos) := by
    intro ps j hj
    rw [hF]
    simp only
    unfold n0L
    rw [List.take_succ_eq_append_getElem hj, List.foldl_append]
    simp [List.getD_eq_getElem?_getD, List.getElem?_eq_getElem hj]
   have HF0 : Hid (F [] = T1 ∧ ∀ ps, (F ps).length = k) := by
    rw [hF]; exact ⟨rfl, fun ps => by rw [n0L_length]; exact HLT1.out⟩
   obtain ⟨G, hG⟩ : ∃ G : List Int → List Int, G = fun t => neutL sos eos e t := ⟨_, rfl⟩
   have HG : Hid (∀ t, neutL sos eos e t = G t) := by intro t; rw [hG]
   have HQ3 : Hid (q = (trip at' lev (G (F (pairsL T1 R0)))).foldl setF lv) := by
    have := HQ2.out; rw [hG, hF, he]; exact this
   have he01 : e = 0 ∨ e = 1 := by omega
   have hmod : (lev % 2 == 1) = (e == 1) := by rw [he]
   clear hF hG he HQ2
   go_upto_if 64 with fail
   go_cut [12] (fun ev wc => ev = .int .i64 e ∧ wc = w2)
   case first =>
    rcases he01 with rfl | rfl
    ·have hmod' : (lev % 2 == 1) = false := hmod
     go_wp2_with fail
     go_meet
     case rel => exact ⟨rfl, rfl⟩
    ·have hmod' : (lev % 2 == 1) = true := hmod
     go_wp2_with fail
     go_meet
     case rel => exact ⟨rfl, rfl⟩
   case rest =>
    obtain ⟨hc1, hc2⟩ := hcut
    subst hc1
    have hc2' := hc2.symm
    subst hc2'
    clear hmod he01
    go_wp2_with fail
    refine (pairs_row T1 R0 k gt 0 ct gq 0 cq w2 HLT1.out HK.out.2 hm1 (own_ints (by have := HT2.out.ht; rw [HLT1.out] at this; exact this)) (own_ints (by have := HT2.out.hr; rw [HK.out.2] at this; exact this)) (own_lt HT2.out.ht gt rfl) (own_lt HT2.out.hr gq rfl)).mono ?_
    rintro ev w3 ⟨pv, ps, rfl, hps, hpl, hb3, hprow⟩
    have hT3 := HT2.out.call hb3
    obtain ⟨pa, pc, rfl⟩ := own_form hprow
    have HT3 : Hid (Tri W0 w3 W0.heap.size (.slice (some ⟨gt, 0, none⟩) k ct) (.slice (some ⟨go, 0, none⟩) k co) (.slice (some ⟨gq, 0, none⟩) k cq) T1 T0 R0) := hT3
    have HPR : Hid (w3.ownsRow w2.heap.size 194 2 (.slice pa ps.length pc) ps.length (pairsV ps)) := hprow
    have HPS : Hid (pairsL T1 R0 = ps ∧ ∀ p ∈ ps, p.1 < p.2 ∧ p.2 < k) := ⟨hps.is.symm, fun p hp => by have := hps.ok p hp; rw [HLT1.out] at this; exact this⟩
    clear hT3 hb3 hprow hps c0 c1 c2 c3 HT2
    go_wp2
    go_loopg [14] ps.length (fun gh iv W => ∃ (j : Nat) (t' : List Int), j ≤ ps.length ∧ gh = ps.length - j ∧ iv = .int .i64 j ∧ Tri W0 W W0.heap.size (.slice (some ⟨gt, 0, none⟩) k ct) (.slice (some ⟨go, 0, none⟩) k co) (.slice (some ⟨gq, 0, none⟩) k cq) t' T0 R0 ∧ W.ownsRow w2.heap.size 194 2 (.slice pa ps.length pc) ps.length (pairsV ps) ∧ t' = F (ps.take j))
    case atStart => exact ⟨0, T1, by omega, rfl, rfl, HT3.out, HPR.out, HF0.out.1.symm⟩
    case round =>
     clear HT3 HPR
     obtain ⟨j, t', hj, rfl, rfl, hT, hPR, hE⟩ := hrel
     have HT : Hid (Tri W0 wr W0.heap.size (.slice (some ⟨gt, 0, none⟩) k ct) (.slice (some ⟨go, 0, none⟩) k co) (.slice (some ⟨gq, 0, none⟩) k cq) t' T0 R0) := hT
     have HPR : Hid (wr.ownsRow w2.heap.size 194 2 (.slice pa ps.length pc) ps.length (pairsV ps)) := hPR
     have HE : Hid (t' = F (ps.take j)) := hE
     have HtL : Hid (t'.length = k) := by rw [hE]; exact HF0.out.2 _
     have HIT : Hid (IRow wr W0.heap.size gt k ct t') := by have := hT.ht; rw [HtL.out] at this; exact this
     obtain ⟨c0, c1, c2, c3⟩ := HC.out wr hT.below
     by_cases hlt : j < ps.length
     ·obtain ⟨gp, cp, hv, hcp, hgp, _⟩ := own_some hPR (by omega)
      obtain ⟨hv1, hv2⟩ : pa = some ⟨gp, 0, none⟩ ∧ pc = cp := by simpa using hv
      clear hv
      subst hv1
      subst hv2
      have d0 := pair_cell0 hPR j hlt
      have d1 := pair_cell1 hPR j hlt
      have hmem : ps.getD j (0, 0) ∈ ps := getD_mem hlt
      have hok := HPS.out.2 _ hmem
      have hN0 := HF.out ps j hlt
      rw [← hE] at hN0
      have HN : Hid _ := hN0
      clear hN0
      generalize ps.getD j (0, 0) = pr at *
      obtain ⟨f, z⟩ := pr
      simp only at d0 d1 hok
      clear hT hPR hE hmem
      go_wp2
      go_region_with (go_at_call 126; refine (paired_row t' T0 f z _ sos W0.heap.size gt k ct go 0 co _ ?_ hm1 HK.out.1 ?_ ?_ (fun e => HNE.out.1 e.symm) hok.1 hok.2).mono ?_; exact HIT.out; exact (own_ints (by have := HT.out.ho; rw [HK.out.1] at this; exact this)); exact (own_lt HT.out.ho go rfl); rintro ev w4 ⟨rfl, hI4, hG4⟩)
      all_goals
       have hG4 := drew_grown.trans hG4
       have HT4 : Hid (Tri W0 w4 W0.heap.size (.slice (some ⟨gt, 0, none⟩) k ct) (.slice (some ⟨go, 0, none⟩) k co) (.slice (some ⟨gq, 0, none⟩) k cq) _ T0 R0) := HT.out.write hI4 hG4
       have HP4 : Hid (w4.ownsRow w2.heap.size 194 2 (.slice (some ⟨gp, 0, none⟩) ps.length pc) ps.length (pairsV ps)) := own_grown HPR.out hG4 (own_types HPR.out HIT.out (by decide))
       clear hI4 hG4 HPR HT HIT
       go_wp2
       go_roundg (ps.length - (j + 1))
       case measure => omega
       case rel => exact ⟨j + 1, _, by omega, rfl, by simp, HT4.out, HP4.out, HN.out.symm⟩
     ·have hje : j = ps.length := by omega
      have HE2 : Hid (t' = F ps) := by show _ = _; rw [hE, hje, List.take_length]
      clear hT hPR hE hlt
      go_wp2_with fail
      refine (neutral_row t' sos eos _ W0.heap.size gt k ct wr HIT.out hm1).mono ?_
      rintro ev w4 ⟨rfl, hI4, hG4⟩
      rw [HG.out t'] at hI4
      have hT5 := HT.out.write hI4 hG4
      have HQ4 : Hid (q = (trip at' lev (G t')).foldl setF lv) := by
       show _ = _
       rw [HQ3.out, HPS.out.1, ← HE2.out]
      have hL5 := hI4.len
      have hT5r := hT5.ht
      rw [hL5] at hT5r
      have hb5 := hT5.below
      clear c0 c1 c2 c3 HPR HT HIT HE HE2 hG4 hI4 hje hj hT5
      generalize G t' = T3 at *
      have HB5 : Hid (Below W0.heap.size W0 w4) := hb5
      have HT5 : Hid (w4.ownsRow W0.heap.size 3 1 (.slice (some ⟨gt, 0, none⟩) k ct) k (iv T3)) := hT5r
      have HTL : Hid (T3.length = k ∧ gt < w4.heap.size ∧ gt ≠ gl) := ⟨hL5, own_lt hT5r gt rfl, by have := HNE.out.2.2.1; have := HS0.out.2.2.2.2.2.2.2; omega⟩
      have HLV : Hid (IRow w4 B gl n cl lv) := own_below HI0.out.2.2.2 hb5
      clear hb5 hT5r hL5
      go_wp2
      go_loopg [15] k (fun gh iv W => ∃ (j : Nat) (l' : List Int), j ≤ k ∧ gh = k - j ∧ iv = .int .i64 j ∧ IRow W B gl n cl l' ∧ w4.grownBy W (some gl) ∧ l' = ((trip at' lev T3).take j).foldl setF lv)
      case atStart => exact ⟨0, lv, by omega, rfl, rfl, HLV.out, World.grownBy.refl _ _, rfl⟩
      case round =>
       clear HLV
       obtain ⟨j, l', hj, rfl, rfl, hI, hGr, hE⟩ := hrel
       have HI : Hid (IRow wr B gl n cl l') := hI
       have HGr : Hid (w4.grownBy wr (some gl)) := hGr
       have HE : Hid (l' = ((trip at' lev T3).take j).foldl setF lv) := hE
       obtain ⟨c0, c1, c2, c3⟩ := HC.out w4 HB5.out
       have hz4 : W0.heap.size ≤ w4.heap.size := HB5.out.size
       have hS0 := HS0.out
       rw [← grown_cell hGr (by omega) hS0.2.2.1] at c0 c1
       by_cases hlt : j < k
       ·have hkl : j < at'.length := by rw [HM.out.1]; exact hlt
        have hp : at'.getD j 0 < n := HM.out.2 _ (getD_mem0 hkl)
        have d0 := (HI0.out.1.stay HB5.out hS0.2.2.2.1) j (by rw [nl_length]; exact hkl)
        rw [nl_getD _ _ hkl, ← grown_cell hGr (by omega) hS0.2.2.2.2.1] at d0
        have d1 := own_icell HT5.out j (by rw [HTL.out.1]; exact hlt)
        rw [← grown_cell hGr HTL.out.2.1 HTL.out.2.2] at d1
        have HN : Hid (((trip at' lev T3).take (j + 1)).foldl setF lv = l'.set (at'.getD j 0) (implS (T3.getD j 0) lev)) := by
         show _ = _
         rw [trip_take_succ at' lev T3 j hkl (by rw [HTL.out.1]; exact hlt), List.foldl_append, ← hE]; rfl
        generalize at'.getD j 0 = p at *
        generalize T3.getD j 0 = tc at *
        have hcl := hI.cell p hp
        have hfr := hI.frozen p
        generalize l'.getD p 0 = lp at hcl
        clear hI hGr hE c2 c3 hS0 hz4 hkl
        generalize him : implS tc lev = im at *
        have HIM : Hid (implS tc lev = im) := him
        clear him
        go_wp2
        go_region_with (go_at_call 128; refine (implicit_any tc lev _ hl1.1 hl1.2).mono ?_; rintro ev _ ⟨rfl, rfl⟩; rw [HIM.out])
        all_goals
         go_wp2
         go_roundg (k - (j + 1))
         case measure => omega
         case rel => exact ⟨j + 1, _, by omega, rfl, by simp, HI.out.set p im, (HGr.out.trans (HI.out.grown p im)).trans drew_grown, HN.out.symm⟩
       ·have hje : j = k := by omega
        have HV : Hid (q = l') := by
         show _ = _
         rw [HQ4.out, HE.out, hje, List.take_of_length_le]
         rw [trip, List.length_map, List.length_zip, HM.out.1, HTL.out.1]; omega
        clear hI hGr hE c2 c3 hS0 hz4
        go_wp2
        go_end0
        exact ⟨rfl, HV.out ▸ HI.out, (HS0.out.1.trans (grown_of_below HB5.out)).trans HGr.out⟩
end Go.Proofs.YtkbinfhclaafhaaGreatDoor
namespace Go.Proofs.YtkbinfhclaafhaaGreatDoor
open Go.RowKit
def rsL : List Int → List Bool
 | [] => []
 | c :: r => resetB c r :: rsL r
def rsTo (cs : List Int) (m : Nat) : List Bool := List.replicate m false ++ rsL (cs.drop m)
theorem rsTo_start (cs : List Int) : rsTo cs cs.length = List.replicate cs.length false := by rw [rsTo, List.drop_length, rsL, List.append_nil]
theorem rsTo_set (cs : List Int) (q : Nat) (hq : q < cs.length) (b : Bool) (hb : b = resetB (cs.getD q 0) (cs.drop (q + 1))) : (rsTo cs (q + 1)).set q b = rsTo cs q := by
 unfold rsTo
 rw [drop_at hq, rsL, ← hb, List.replicate_succ', List.append_assoc, List.set_append_right _ _ (by simp)]
 simp
theorem rsTo_keep (cs : List Int) (q : Nat) (hq : q < cs.length) (hb : resetB (cs.getD q 0) (cs.drop (q + 1)) = false) : rsTo cs (q + 1) = rsTo cs q := by
 unfold rsTo
 rw [drop_at hq, rsL, hb, List.replicate_succ', List.append_assoc]; rfl
theorem trailOn_at (cs : List Int) (q : Nat) (hq : q < cs.length) : trailOn (cs.drop q) = if cs.getD q 0 = 10 then true else if looseB (cs.getD q 0) = true then trailOn (cs.drop (q + 1)) else false := by rw [drop_at hq, trailOn]
def FinTo (para : Int) (cs o : List Int) (k : Nat) (prev : Int) (o' : List Int) : Prop := (∃ pre, pre.length = k ∧ o' = pre ++ o.drop k ∧ finL para para cs o = pre ++ finL para prev (cs.drop k) (o.drop k)) ∧ ((k = 0 ∧ prev = para) ∨ (0 < k ∧ prev = o'.getD (k - 1) 0))
theorem FinTo.start (para : Int) (cs o : List Int) : FinTo para cs o 0 para o := ⟨⟨[], rfl, rfl, rfl⟩, .inl ⟨rfl, rfl⟩⟩
theorem FinTo.at {para prev : Int} {cs o o' : List Int} {k : Nat} (h : FinTo para cs o k prev o') (j : Nat) (hj : k ≤ j) : o'.getD j 0 = o.getD j 0 := by
 obtain ⟨⟨pre, h1, h2, _⟩, _⟩ := h
 rw [h2, List.getD_eq_getElem?_getD, List.getElem?_append_right (by omega), h1, List.getElem?_drop, show k + (j - k) = j by omega, List.getD_eq_getElem?_getD]
theorem FinTo.len {para prev : Int} {cs o o' : List Int} {k : Nat} (h : FinTo para cs o k prev o') (hk : k ≤ o.length) : o'.length = o.length := by
 obtain ⟨⟨pre, h1, h2, _⟩, _⟩ := h
 rw [h2]; simp [h1]; omega
theorem FinTo.step {para prev v : Int} {cs o o' : List Int} {k : Nat} (h : FinTo para cs o k prev o') (hk : k < cs.length) (hl : cs.length = o.length) (hv : v = if resetB (cs.getD k 0) (cs.drop (k + 1)) = true then para else if leftB (cs.getD k 0) = false then prev else o.getD k 0) : FinTo para cs o (k + 1) v (o'.set k v) := by
 have hlen := h.len (by omega)
 obtain ⟨⟨pre, h1, h2, h3⟩, _⟩ := h
 refine ⟨⟨pre ++ [v], by simp [h1], ?_, ?_⟩, .inr ⟨by omega, ?_⟩⟩
 ·rw [h2, drop_at (show k < o.length by omega), List.set_append_right _ _ (by omega), h1, Nat.sub_self]; simp
 ·rw [h3, drop_at hk, drop_at (show k < o.length by omega), finL, ← hv]; simp
 ·rw [Nat.add_sub_cancel, getD_set_self (by omega)]
theorem FinTo.same {para prev : Int} {cs o o' : List Int} {k : Nat} (h : FinTo para cs o k prev o') (hk : k < o.length) : o'.set k (o.getD k 0) = o' := by
 obtain ⟨⟨pre, h1, h2, _⟩, _⟩ := h
 rw [h2, drop_at hk, List.set_append_right _ _ (by omega), h1, Nat.sub_self]; rfl
theorem FinTo.stop {para prev : Int} {cs o o' : List Int} {k : Nat} (h : FinTo para cs o k prev o') (hk : cs.length ≤ k) (hl : cs.length = o.length) : o' = finL para para cs o := by
 obtain ⟨⟨pre, h1, h2, h3⟩, _⟩ := h
 rw [List.drop_eq_nil_of_le (by omega)] at h2 h3
 rw [h2, h3, List.drop_eq_nil_of_le (by omega)]; rfl
theorem rsL_cell (cs : List Int) (k : Nat) (hk : k < cs.length) : (bv (rsTo cs 0))[k]? = some (.bool (resetB (cs.getD k 0) (cs.drop (k + 1)))) := by
 have key : ∀ (cs : List Int) (k : Nat), k < cs.length → (rsL cs)[k]? = some (resetB (cs.getD k 0) (cs.drop (k + 1))) := by
  intro cs
  induction cs with
  | nil => intro k h; simp at h
  | cons c r ih =>
   intro k h
   cases k with
   | zero => simp [rsL]
   | succ k => simpa [rsL] using ih k (by simpa using h)
 simp [bv, rsTo, key cs k hk]
theorem xLeft_getD (cs : List Int) (k : Nat) (hk : k < cs.length) : (xLeft cs).getD k false = leftB (cs.getD k 0) := by
 simp [xLeft, List.getD_eq_getElem?_getD, List.getElem?_eq_getElem hk]
set_option maxRecDepth 100000 in
set_option maxHeartbeats 8000000 in
theorem trailing_row (cs o : List Int) (para : Int) (n gc oc cc gf of' cf B go co : Nat) (w : World) (hc : cs.length = n) (hn : n ≤ 100000) (hci : IntsAt w gc oc cs) (hfi : BoolsAt w gf of' (xLeft cs)) (hgc : gc < w.heap.size) (hgf : gf < w.heap.size) (ho : IRow w B go n co o) (hnc : gc ≠ go) (hnf : gf ≠ go) (h0 : 0 < n → leftB (cs.getD 0 0) = false → o.getD 0 0 = para) :
  Calls Tryz.prog 74 #[.slice (some ⟨gc, oc, none⟩) n cc, .slice (some ⟨go, 0, none⟩) n co, .slice (some ⟨gf, of', none⟩) n cf, .int .i64 para] w fun ev w' => ev = .returned (.slice (some ⟨go, 0, none⟩) n co) ∧ IRow w' B go n co (finL para para cs o) ∧ w.grownBy w' (some go) := by
 obtain ⟨iB, hiB, hzB0, hzB1, hzB2⟩ := info_parts Tryz.infoBool
 have HCI : Hid (IntsAt w gc oc cs) := hci
 have HFI : Hid (BoolsAt w gf of' (xLeft cs)) := hfi
 have HO : Hid (IRow w B go n co o) := ho
 have hgo : B ≤ go ∧ go < w.heap.size := World.ownsRow.lt ho go rfl
 have HD : Hid (cs.length = n ∧ gc < w.heap.size ∧ gf < w.heap.size ∧ gc ≠ go ∧ gf ≠ go ∧ go < w.heap.size ∧ (0 < n → leftB (cs.getD 0 0) = false → o.getD 0 0 = para)) := ⟨hc, hgc, hgf, hnc, hnf, hgo.2, h0⟩
 clear hci hfi ho hgo hgc hgf hnc hnf h0
 have hmk := run_make_row' (P := Tryz.prog) 36 4 (.bool false) 1 Tryz.underlying36 Tryz.infoBool rfl .i64 .i64 n (by omega) (by omega)
 have HW1 : Hid (Below w.heap.size w (w.alloc (.cells (madeCells #[.bool false] n) 4)) ∧ RowAt (w.alloc (.cells (madeCells #[.bool false] n) 4)) w.heap.size 4 w.heap.size n (bv (rsTo cs n))) := by
  refine ⟨(Below.refl _ _).alloc (Nat.le_refl _) _, ?_⟩
  have e : bv (rsTo cs n) = List.replicate n (.bool false) := by rw [← HD.out.1, rsTo_start]; simp [bv]
  rw [e]
  exact RowAt.made (Nat.le_refl _) (by omega)
 clear hzB0 hzB1 hzB2 hiB hc
 go_enter Tryz.func74, Tryz.ntmps74
 go_wp2
 generalize w.alloc (.cells (madeCells #[.bool false] n) 4) = W1 at *
 obtain ⟨g, hg⟩ : ∃ g, g = w.heap.size := ⟨_, rfl⟩
 have HG : Hid (g = w.heap.size) := hg
 rw [← hg]
 clear hg hmk
 go_loopg [10, 11] n (fun gh onv iv W => ∃ m : Nat, m ≤ n ∧ m = gh ∧ onv = .bool (trailOn (cs.drop m)) ∧ iv = .int .i64 ((m : Int) - 1) ∧ Below w.heap.size w W ∧ RowAt W w.heap.size 4 g n (bv (rsTo cs m)))
 case atStart => exact ⟨n, Nat.le_refl _, rfl, by rw [List.drop_eq_nil_of_le (by rw [HD.out.1]; exact Nat.le_refl _)]; rfl, by simp, HW1.out.1, by rw [HG.out]; exact HW1.out.2⟩
 case round =>
  clear HW1
  obtain ⟨m, hm, rfl, rfl, rfl, hB, hR⟩ := hrel
  have HB : Hid (Below w.heap.size w wr) := hB
  have HR : Hid (RowAt wr w.heap.size 4 g n (bv (rsTo cs m))) := hR
  cases m with
  | succ q =>
   have hq : q < cs.length := by rw [HD.out.1]; omega
   have hcc := HCI.out.stay hB HD.out.2.1 q hq
   have HT := trailOn_at cs q hq
   have HS1 := rsTo_set cs q hq true
   have HS2 := rsTo_keep cs q hq
   have hrb : resetB (cs.getD q 0) (cs.drop (q + 1)) = (cs.getD q 0 == 10 || (looseB (cs.getD q 0) && trailOn (cs.drop (q + 1)))) := rfl
   have hfr := hR.frozen q
   have hrc : wr.cell? ⟨g, q, none⟩ = some (.bool false) := by
    rw [hR.cell q (by omega)]
    unfold rsTo bv
    rw [List.map_append, List.getElem?_append_left (by simp)]
    simp
   rw [hrb] at HS1 HS2
   generalize cs.getD q 0 = c at *
   generalize trailOn (cs.drop (q + 1)) = on at *
   rw [show ((q + 1 : Nat) : Int) - 1 = (q : Int) by omega]
   have hqn : q < n := by omega
   clear hrb hB hR hq
   by_cases h10 : c = 10
   ·subst h10
    have HT' : Hid (trailOn (cs.drop q) = true) := by show _ = _; rw [HT, if_pos rfl]
    have HS' : Hid ((rsTo cs (q + 1)).set q true = rsTo cs q) := HS1 rfl
    clear HT HS1 HS2
    go_wp2_with fail
    refine (loose_any 10 _).mono ?_
    rintro ev _ ⟨rfl, rfl⟩
    go_wp2
    go_roundg q
    case measure => omega
    case rel => exact ⟨q, by omega, rfl, by rw [HT'.out], by simp, HB.out.setCell (p := ⟨g, q, none⟩) (by rw [HG.out]; exact Nat.le_refl _) _, by rw [← HS'.out, ← bv_set]; exact HR.out.set q _⟩
   ·have q10 : (c == 10) = false := by simpa using h10
    rw [q10, Bool.false_or] at HS1 HS2
    rw [if_neg h10] at HT
    obtain ⟨lo, hlo⟩ : ∃ lo, lo = looseB c := ⟨_, rfl⟩
    rw [← hlo] at HT HS1 HS2
    have HLO : Hid (looseB c = lo) := hlo.symm
    clear hlo h10
    cases on
    ·have HT' : Hid (trailOn (cs.drop q) = false) := by show _ = _; rw [HT]; split <;> rfl
     have HS' : Hid (rsTo cs (q + 1) = rsTo cs q) := HS2 (by simp)
     clear HT HS1 HS2
     go_wp2_with fail
     refine (loose_any c _).mono ?_
     rintro ev _ ⟨rfl, rfl⟩
     rw [HLO.out]
     go_wp2
     go_roundg q
     case measure => omega
     case rel => exact ⟨q, by omega, rfl, by rw [HT'.out], by simp, HB.out, by rw [← HS'.out]; exact HR.out⟩
    ·cases lo
     ·have HT' : Hid (trailOn (cs.drop q) = false) := by show _ = _; rw [HT]; rfl
      have HS' : Hid (rsTo cs (q + 1) = rsTo cs q) := HS2 (by simp)
      clear HT HS1 HS2
      go_wp2_with fail
      refine (loose_any c _).mono ?_
      rintro ev _ ⟨rfl, rfl⟩
      rw [HLO.out]
      go_wp2
      go_roundg q
      case measure => omega
      case rel => exact ⟨q, by omega, rfl, by rw [HT'.out], by simp, HB.out, by rw [← HS'.out]; exact HR.out⟩
     ·have HT' : Hid (trailOn (cs.drop q) = true) := by show _ = _; rw [HT]; rfl
      have HS' : Hid ((rsTo cs (q + 1)).set q true = rsTo cs q) := HS1 rfl
      clear HT HS1 HS2
      go_wp2_with fail
      refine (loose_any c _).mono ?_
      rintro ev _ ⟨rfl, rfl⟩
      rw [HLO.out]
      go_wp2
      go_roundg q
      case measure => omega
      case rel => exact ⟨q, by omega, rfl, by rw [HT'.out], by simp, HB.out.setCell (p := ⟨g, q, none⟩) (by rw [HG.out]; exact Nat.le_refl _) _, by rw [← HS'.out, ← bv_set]; exact HR.out.set q _⟩
  | zero =>
   have HO2 : Hid (IRow wr B go n co o) := own_below HO.out hB
   clear hB hR
   go_wp2
   obtain ⟨W2, hW2⟩ : ∃ W2, W2 = wr := ⟨_, rfl⟩
   rw [← hW2] at HB HR HO2
   have HW2 : Hid (W2 = wr) := hW2
   clear hW2
   go_loopg [13] n (fun gh iv W => ∃ (k : Nat) (prev : Int) (o' : List Int), k ≤ n ∧ gh = n - k ∧ iv = .int .i64 k ∧ IRow W B go n co o' ∧ W2.grownBy W (some go) ∧ FinTo para cs o k prev o')
   case atStart => exact ⟨0, para, o, by omega, rfl, rfl, HW2.out ▸ HO2.out, by rw [HW2.out]; exact World.grownBy.refl _ _, FinTo.start _ _ _⟩
   case round =>
    obtain ⟨k, prev, o', hk, rfl, rfl, hI, hGr, hF⟩ := hrel
    have HI : Hid (IRow wr B go n co o') := hI
    have HGr : Hid (W2.grownBy wr (some go)) := hGr
    by_cases hlt : k < n
    ·have hkc : k < cs.length := by rw [HD.out.1]; exact hlt
     have hol : o.length = n := HO2.out.len
     have hstep := fun v => FinTo.step (v := v) hF hkc (by rw [HD.out.1, hol])
     have hsame := hF.same (by rw [hol]; exact hlt)
     have hz2 : w.heap.size ≤ W2.heap.size := HB.out.size
     have hrc := HR.out.cell k hlt
     rw [show (bv (rsTo cs 0))[k]? = some (.bool (resetB (cs.getD k 0) (cs.drop (k + 1)))) from rsL_cell cs k hkc] at hrc
     rw [← grown_cell hGr (HR.out.ge).2 (by have := HG.out; have := HD.out.2.2.2.2.2.1; omega)] at hrc
     have hfc := HFI.out.stay HB.out HD.out.2.2.1 k (by rw [xLeft, List.length_map]; exact hkc)
     rw [xLeft_getD cs k hkc, ← grown_cell hGr (by have := HD.out.2.2.1; omega) HD.out.2.2.2.2.1] at hfc
     have hcell := hI.cell k hlt
     have hfr := hI.frozen k
     have hoc : o'.getD k 0 = o.getD k 0 := hF.at k (Nat.le_refl _)
     have hprev := hF.2
     generalize resetB (cs.getD k 0) (cs.drop (k + 1)) = rb at *
     generalize hlb : leftB (cs.getD k 0) = lb at *
     cases rb
     ·cases lb
      ·cases k with
       | zero =>
        have hp : prev = para := by rcases hprev with ⟨_, h⟩ | ⟨h, _⟩; exact h; omega
        have ho0 : o.getD 0 0 = para := HD.out.2.2.2.2.2.2 (by omega) hlb
        have HN : Hid (FinTo para cs o 1 para o') := by
         have := hstep para (by simp [hp])
         rw [← ho0] at this
         rw [hsame] at this
         rw [ho0] at this
         exact this
        rw [Nat.add_zero] at hfc
        clear hstep hsame hprev hF hI hGr hoc hlb ho0 hp hkc hol hz2
        go_wp2
        go_roundg (n - 1)
        case measure => omega
        case rel => exact ⟨1, _, o', by omega, rfl, rfl, HI.out, HGr.out, HN.out⟩
       | succ j =>
        have hp : prev = o'.getD j 0 := by rcases hprev with ⟨h, _⟩ | ⟨_, h⟩; omega; rw [h, Nat.add_sub_cancel]
        have hcj := hI.cell j (by omega)
        rw [← hp] at hcj
        have HN : Hid (FinTo para cs o (j + 1 + 1) prev (o'.set (j + 1) prev)) := hstep prev (by simp)
        generalize o'.getD (j + 1) 0 = oc' at hcell
        clear hstep hsame hprev hF hI hGr hoc hlb hp hkc hol hz2
        go_wp2
        go_roundg (n - (j + 1 + 1))
        case measure => omega
        case rel => exact ⟨j + 1 + 1, _, _, by omega, rfl, by simp, HI.out.set (j + 1) prev, HGr.out.trans (HI.out.grown (j + 1) prev), HN.out⟩
      ·have HN : Hid (FinTo para cs o (k + 1) (o.getD k 0) o') := by
        have := hstep (o.getD k 0) (by simp)
        rw [hsame] at this
        exact this
       clear hstep hsame hprev hF hI hGr hoc hlb hkc hol hz2
       go_wp2
       go_roundg (n - (k + 1))
       case measure => omega
       case rel => exact ⟨k + 1, _, o', by omega, rfl, by simp, HI.out, HGr.out, HN.out⟩
     ·have HN : Hid (FinTo para cs o (k + 1) para (o'.set k para)) := hstep para (by simp)
      generalize o'.getD k 0 = oc' at hcell
      clear hstep hsame hprev hF hI hGr hoc hlb hkc hol hz2
      go_wp2
      go_roundg (n - (k + 1))
      case measure => omega
      case rel => exact ⟨k + 1, _, _, by omega, rfl, by simp, HI.out.set k para, HGr.out.trans (HI.out.grown k para), HN.out⟩
    ·have HV : Hid (o' = finL para para cs o) := hF.stop (by rw [HD.out.1]; omega) (by rw [HD.out.1]; have := HO2.out.len; omega)
     clear hI hGr hF
     go_wp2
     refine bodyPost_ret (v := .slice (some ⟨go, 0, none⟩) n co) (by simp [results, Tryz.results74, go_sem]) rfl ⟨rfl, HV.out ▸ HI.out, (grown_of_below HB.out).trans HGr.out⟩
end Go.Proofs.YtkbinfhclaafhaaGreatDoor
namespace Go.Proofs.YtkbinfhclaafhaaGreatDoor
open Go.RowKit
theorem foundF_01 (cs : List Int) : ∀ f i, foundF cs f i = 0 ∨ foundF cs f i = 1
 | 0, _ => .inl rfl
 | f + 1, i => by
  rw [foundF]
  split
  ·split
   ·exact .inl rfl
   ·split
    ·exact .inr rfl
    ·split
     ·exact foundF_01 cs f _
     ·exact foundF_01 cs f _
  ·exact .inl rfl
theorem paraL_01 (cs : List Int) (d : Int) : paraL cs d = 0 ∨ paraL cs d = 1 := by
 unfold paraL
 split
 ·assumption
 ·exact foundF_01 cs _ _
theorem xLevels_length (cs : List Int) (para : Int) : (xLevels cs para).length = cs.length := by simp [xLevels]
theorem xKinds_length (cs : List Int) (para : Int) : (xKinds cs para).length = cs.length := by simp [xKinds]
theorem xLeft_length (cs : List Int) : (xLeft cs).length = cs.length := by simp [xLeft]
theorem xLevels_ok (cs : List Int) (para : Int) (h : 0 ≤ para ∧ para ≤ 125) : ∀ l ∈ xLevels cs para, 0 ≤ l ∧ l ≤ 125 := by
 intro l hl
 unfold xLevels at hl
 obtain ⟨i, _, rfl⟩ := List.mem_map.1 hl
 exact ((xAt_ok cs para h i).pre (cs.getD i 0)).top.2
theorem RowAt.heap {w : World} {B g n : Nat} {e : TypeId} {xs : List Value} (h : RowAt w B e g n xs) : w.heap[g]? = some (.cells xs.toArray e (0, 0)) := by
 obtain ⟨h1, h2⟩ := h
 rcases h2 with ⟨h, _⟩ | ⟨g', cap', cur, e1, _, h4, _, _, h7, h8⟩
 ·cases h
 ·cases e1
  rw [h4]
  have : cur = xs.toArray := by
   rw [← h8, List.take_of_length_le (by rw [Array.length_toList]; omega)]
  rw [this]
theorem RowAt.ofHeap {w : World} {B g n : Nat} {e : TypeId} {xs : List Value} (h : w.heap[g]? = some (.cells xs.toArray e (0, 0))) (hB : B ≤ g) (hl : xs.length = n) (hn : n ≤ 1000000) : RowAt w B e g n xs :=
 ⟨by omega, .inr ⟨g, n, xs.toArray, rfl, hB, h, Nat.le_refl _, by unfold maxLen; omega, by simp [hl], by simp [← hl]⟩⟩
theorem RowAt.ints {w : World} {B g n : Nat} {l : List Int} (h : RowAt w B 3 g n (iv l)) : IntsAt w g 0 l := fun k hk => by
 rw [Nat.zero_add]; exact own_icell h k hk
theorem RowAt.bools {w : World} {B g n : Nat} {l : List Bool} (h : RowAt w B 4 g n (bv l)) : BoolsAt w g 0 l := fun k hk => by
 have hl : l.length = n := by have := h.1; simp [bv] at this; omega
 rw [Nat.zero_add, h.cell k (by omega)]
 simp [bv, List.getD_eq_getElem?_getD, List.getElem?_eq_getElem hk]
theorem RowAt.keep {w w' : World} {B B' g n : Nat} {e : TypeId} {xs : List Value} (h : RowAt w B e g n xs) (hb : Below B' w w') (hg : g < B') : RowAt w' B e g n xs :=
 ownsRow_blocks h fun k o hk ho => by
  have : g = k := by simpa [Value.ownBlock] using hk
  subst this
  rw [hb.block g hg]; exact ho
theorem chain_len {cs : List Int} {rs : List (List Nat)} (h : RunsOk cs.length rs) (hin : ∀ r ∈ rs, r.length + r.headD 0 ≤ r.getLastD 0 + 1) : ∀ f cur, cur ≠ [] → (∀ p ∈ cur, p < cs.length) → cur.length ≤ cur.getLastD 0 + 1 → (chainF cs rs f cur) ≠ [] ∧ (chainF cs rs f cur).length ≤ cs.length
 | 0, cur, h1, h2, h3 => by
  rw [chainF]
  have := h2 _ (last_mem h1)
  exact ⟨h1, by omega⟩
 | f + 1, cur, h1, h2, h3 => by
  rw [chainF]
  have hla := h2 _ (last_mem h1)
  cases hn : nextRun cs rs (cur.getLastD 0) with
  | none => exact ⟨h1, by simp only; omega⟩
  | some k =>
   simp only
   unfold nextRun at hn
   split at hn
   ·rename_i hiso
    obtain ⟨hk, hh⟩ := nextK_some _ _ hn
    have hm : rs.getD k [] ∈ rs := getD_mem hk
    have hne := h.ne _ hm
    have hgt := mt_gt cs _ hla hiso
    have hi := hin _ hm
    have hl := List.length_pos_iff.2 hne
    refine chain_len h hin f _ (fun e => hne (List.append_eq_nil_iff.1 e).2) ?_ ?_
    ·intro p hp
     rcases List.mem_append.1 hp with hp | hp
     ·exact h2 p hp
     ·exact h.lt _ hm p hp
    ·rw [last_app hne, List.length_append]; omega
   ·cases hn
theorem seqs_ok {cs lv : List Int} {lf : List Bool} {para : Int} (hl : lv.length = cs.length) (hlv : ∀ l ∈ lv, 0 ≤ l ∧ l ≤ 125) : ∀ s ∈ seqsL cs lv lf para, 0 < s.at'.length ∧ s.at'.length ≤ cs.length ∧ (∀ p ∈ s.at', p < cs.length) ∧ 0 ≤ s.level ∧ s.level ≤ 125 := by
 intro s hs
 unfold seqsL at hs
 obtain ⟨r, hr, rfl⟩ := List.mem_map.1 hs
 have hr := (List.mem_filter.1 hr).1
 have hok : RunsOk cs.length (runsL lv lf) := by have := runsOk_of lv lf; rw [hl] at this; exact this
 have hne := hok.ne _ hr
 have hi := run_inc hr
 have hlen := chain_len hok (fun r hr => run_inc hr) cs.length r hne (hok.lt _ hr) (by omega)
 have hlt : ∀ p ∈ chainF cs (runsL lv lf) cs.length r, p < cs.length := by
  obtain ⟨i, hi', hri⟩ := List.getElem_of_mem hr
  have hg : (runsL lv lf).getD i [] = r := by rw [List.getD_eq_getElem?_getD, List.getElem?_eq_getElem hi', ← hri]; rfl
  have hc := chain_orb hok cs.length [] i hi'
  simp only [List.nil_append] at hc
  rw [hg] at hc
  intro p hp
  rw [hc] at hp
  obtain ⟨j, _, hj⟩ := List.mem_flatMap.1 hp
  rcases Nat.lt_or_ge j (runsL lv lf).length with h' | h'
  ·exact hok.lt _ (getD_mem h') p hj
  ·rw [List.getD_eq_getElem?_getD, List.getElem?_eq_none h'] at hj; cases hj
 refine ⟨List.length_pos_iff.2 hlen.1, hlen.2, hlt, ?_⟩
 exact hlv _ (getD_mem (by rw [hl]; exact hlt _ (head_mem hlen.1)))
theorem finL_congr {para : Int} : ∀ (cs o o' : List Int) (prev : Int), o.length = cs.length → o'.length = cs.length → (∀ k, k < cs.length → leftB (cs.getD k 0) = true → o'.getD k 0 = o.getD k 0) → finL para prev cs o' = finL para prev cs o
 | [], o, o', _, h1, h2, _ => by
  rw [List.eq_nil_of_length_eq_zero h1, List.eq_nil_of_length_eq_zero h2]
 | c :: cs, [], _, _, h1, _, _ => by simp at h1
 | c :: cs, _ :: _, [], _, _, h2, _ => by simp at h2
 | c :: cs, a :: o, b :: o', prev, h1, h2, h => by
  have e : (if resetB c cs = true then para else if leftB c = false then prev else b) = (if resetB c cs = true then para else if leftB c = false then prev else a) := by
   by_cases hc : leftB c = false
   ·rw [if_pos hc, if_pos hc]
   ·have := h 0 (by simp) (by simpa using hc)
    simp at this
    rw [this]
  rw [finL, finL, e, finL_congr cs o o' _ (by simpa using h1) (by simpa using h2) (fun k hk hl => by
   have := h (k + 1) (by simpa using hk) (by simpa using hl)
   simpa using this)]
end Go.Proofs.YtkbinfhclaafhaaGreatDoor
