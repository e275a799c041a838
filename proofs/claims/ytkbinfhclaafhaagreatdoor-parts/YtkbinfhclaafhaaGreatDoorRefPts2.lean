import Derived.Test.YtkbinfhclaafhaaGreatDoorRefPts
namespace Go.Proofs.YtkbinfhclaafhaaGreatDoor
open Go.RowKit

/-! The document's Parts: the walk. -/
theorem tok_other {W w2 : World} {B b : Nat} {e : TypeId} {z n : Nat} {v : Value} {xs : List Value} {c : Array Value} {T : TypeId} {o : Obj} {f : Nat × Nat} (ho : W.ownsRow B e z v n xs) (hH : W.heap[b]? = some (.cells c T f)) (hT : T ≠ e) (hg : (W.alloc o).grownBy w2 v.ownBlock) : w2.heap[b]? = some (.cells c T f) := by
  have hlt : b < W.heap.size := heapLt hH
  rw [hg.block b (by simp; omega) (fun h => ?_)]
  · exact (Below.heap_alloc _ _ _ hlt).trans hH
  · rcases ho.2 with ⟨rfl, _⟩ | ⟨g, cap, cur, rfl, _, hh, _⟩
    · simp [Value.ownBlock] at h
    · simp only [Value.ownBlock, Option.some.injEq] at h
      subst h
      rw [hH] at hh
      simp only [Option.some.injEq, Obj.cells.injEq] at hh
      exact hT hh.2.1
set_option maxRecDepth 100000 in
set_option maxHeartbeats 8000000 in
theorem refParts_any (s : ByteArray) (w : World) : Calls Tryz.prog 50 #[.string s] w fun e w' => ∃ v, e = .returned v ∧ w'.ownsRow w.heap.size 83 6 v (docR s).length (docV (docR s)) ∧ Below w.heap.size w w' := by
  unfold docR
  by_cases hz : s.size ≤ 600
  case neg =>
    rw [if_neg hz]
    have hz' : (s.size : Int) > 600 := by omega
    clear hz
    go_enter Tryz.func50, Tryz.ntmps50
    go_wp2
    go_ret
    exact ⟨_, rfl, World.ownsRow_nil _ _ _ _, Below.refl _ _⟩
  case pos =>
    rw [if_pos hz]
    have hz' : ¬ (s.size : Int) > 600 := by omega
    obtain ⟨iT, hiT, hzT⟩ : ∃ i, Tryz.prog.info? 83 = some i ∧ (i.zero, i.size, i.bytes) = (some (.agg #[.int .i64 0, .int .i64 0, .int .i64 0, .int .i64 0, .int .i64 0, .int .i64 0]), 6, 48) := by simpa using Tryz.infoDoc
    simp only [Prod.mk.injEq] at hzT
    obtain ⟨hzT0, hzT1, hzT2⟩ := hzT
    have HLen : Hid ((docD s (toksR s 0) 0 0).length ≤ 600) := docD_len s hz
    have HTC : Hid (TC s 0 (toksR s 0)) := TC_toksR s 0
    have HTk := tokens_any s w (by omega)
    obtain ⟨ts, hts⟩ : ∃ ts, ts = toksR s 0 := ⟨_, rfl⟩
    rw [← hts] at HLen HTC HTk ⊢
    clear hts
    obtain ⟨all, hall⟩ : ∃ all, all = docD s ts 0 0 := ⟨_, rfl⟩
    have HAll : Hid (docD s ts 0 0 = all) := hall.symm
    rw [← hall] at HLen ⊢
    clear hall
    have htl := HTC.out.len
    go_enter Tryz.func50, Tryz.ntmps50
    go_wp2_with fail
    refine HTk.mono ?_
    clear HTk
    rintro ev W1 ⟨tv, rfl, hrow, hb1⟩
    obtain ⟨ta, tc, rfl⟩ := row_form hrow
    have HRow : Hid (W1.ownsRow w.heap.size 125 5 (.slice ta ts.length tc) ts.length (toksV ts)) := hrow
    have HB1 : Hid (Below w.heap.size w W1) := hb1
    have hz1 := hb1.size
    clear hrow hb1
    obtain ⟨n, hn⟩ : ∃ n, n = ts.length := ⟨_, rfl⟩
    rw [← hn] at HRow htl ⊢
    have HN : Hid (n = ts.length) := hn
    clear hn
    go_wp2
    go_loopg [3, 5, 6, 7, 8, 9, 10, 11] n (fun gk ov lv bv iv _ _ _ _ W => ∃ (i ln bg : Nat) (o : List PR), i ≤ n ∧ gk = n - i ∧ iv = .int .i64 i ∧ lv = .int .i64 ln ∧ bv = .int .i64 bg ∧ ln ≤ bg ∧ TC s bg (ts.drop i) ∧ o ++ docD s (ts.drop i) ln bg = all ∧ W.ownsRow W1.heap.size 83 6 ov o.length (docV o) ∧ Below W1.heap.size W1 W)
    case atStart => exact ⟨0, 0, 0, [], by omega, rfl, rfl, rfl, rfl, by omega, HTC.out, HAll.out, World.ownsRow_nil _ _ _ _, Below.refl _ _⟩
    case round =>
      rename World => wo
      obtain ⟨i, ln, bg, o, hi, rfl, rfl, rfl, rfl, hlb, htc, hall, hown, hb⟩ := hrel
      obtain ⟨oa, oc, rfl⟩ := row_form hown
      by_cases hlt : i < n
      · have hil : i < ts.length := by rw [← HN.out]; exact hlt
        have hrow := row_below HRow.out hb
        obtain ⟨tg, tcap, hte, htcap, _, htgs⟩ := row_some hrow (by omega)
        simp only [Value.slice.injEq, true_and] at hte
        obtain ⟨rfl, rfl⟩ := hte
        have hrd := toks_read (by rw [HN.out] at hrow; exact hrow) i hil
        have hdr : ts.drop i = ts[i] :: ts.drop (i + 1) := List.drop_eq_getElem_cons hil
        rw [hdr] at htc hall
        generalize ts[i] = t at *
        obtain ⟨tk, tF, tT, tB, tE⟩ := t
        simp only at hrd
        obtain ⟨r0, r1, r2, r3, r4⟩ := hrd
        obtain ⟨h1, h2, h3, h4, h5, h6⟩ := htc
        simp only at h1 h2 h3 h4 h5 h6
        have HTC2 : Hid (TC s tT (ts.drop (i + 1))) := h6
        obtain ⟨ts2, hts2⟩ : ∃ ts2, ts2 = ts.drop (i + 1) := ⟨_, rfl⟩
        have HTS2 : Hid (ts2 = ts.drop (i + 1)) := hts2
        rw [← hts2] at hall
        have HP : Hid (PIn s all o ⟨tk, tF, tT, tB, tE⟩ ts2 ln bg tF tF) := PIn.start hall h1 h2 hlb
        have HB : Hid (Below W1.heap.size W1 wo) := hb
        have HO : Hid (wo.ownsRow W1.heap.size 83 6 (.slice oa o.length oc) o.length (docV o)) := hown
        have hbz := hb.size
        have hin : (i : Int) < (n : Int) := by omega
        clear hdr h6 hts2 hall hown hb hrow hil
        go_wp2
        go_loopg [3, 5, 6, 9, 10, 11] (s.size + 1 - tF) (fun gk ov lv bv fv pv _ W => ∃ (ln bg fr p : Nat) (o : List PR), p ≤ tT + 1 ∧ gk = s.size + 1 - p ∧ lv = .int .i64 ln ∧ bv = .int .i64 bg ∧ fv = .int .i64 fr ∧ pv = .int .i64 p ∧ PIn s all o ⟨tk, tF, tT, tB, tE⟩ ts2 ln bg fr p ∧ fr ≤ tT ∧ W.ownsRow W1.heap.size 83 6 ov o.length (docV o) ∧ Below W1.heap.size W1 W ∧ W.heap[wo.heap.size]? = some (.cells #[.int .i64 tk, .int .i64 tF, .int .i64 tT, .int .i64 tB, .int .i64 tE] 125 (0, 0)))
        case atStart => exact ⟨ln, bg, tF, tF, o, by omega, rfl, rfl, rfl, rfl, rfl, HP.out, by omega, World.ownsRow.alloc HO.out _, HB.out.alloc hbz _, World.alloc_heap_new _ _⟩
        case round =>
          rename World => wq
          clear HO HB HP r0 r1 r2 r3 r4 hlb
          obtain ⟨ln, bg, fr, p, o, hp, rfl, rfl, rfl, rfl, rfl, hP, hft, hown, hb, hH⟩ := hrel
          obtain ⟨qa, qc, rfl⟩ := row_form hown
          have hol := hP.len
          have hol2 := HLen.out
          have HPi : Hid _ := hP
          have HBi : Hid (Below W1.heap.size W1 wq) := hb
          have HH : Hid (wq.heap[wo.heap.size]? = some (.cells #[.int .i64 tk, .int .i64 tF, .int .i64 tT, .int .i64 tB, .int .i64 tE] 125 (0, 0))) := hH
          have hbT := hP.bgT
          have hlnb := hP.lnb
          have hbz := hb.size
          have hwo : wo.heap.size < wq.heap.size := heapLt hH
          have c0 := cell_of hH 0
          have c1 := cell_of hH 1
          have c2 := cell_of hH 2
          have c3 := cell_of hH 3
          have c4 := cell_of hH 4
          simp only [List.getElem?_toArray, List.getElem?_cons_succ, List.getElem?_cons_zero] at c0 c1 c2 c3 c4
          by_cases hple : p ≤ tT
          · obtain ⟨hgo1, hgo2, _⟩ := hP.go hple
            have hple' : (p : Int) ≤ (tT : Int) := by omega
            clear hP hb hH
            by_cases hplt : p < tT
            · have hpl : p < s.size := by omega
              have hplt' : (p : Int) < (tT : Int) := by omega
              have hbp := bt_in hpl
              obtain ⟨c, hc⟩ : ∃ c, s[p]'hpl = c := ⟨_, rfl⟩
              rw [hc] at hbp
              have hpl' : (p : Int) < (s.size : Int) := by omega
              by_cases h10 : bt s p = 10
              · have r10 : (c.toNat : Int) = 10 := by rw [← hbp, h10]
                have H10 : Hid (bt s p = 10) := h10
                clear hbp h10
                have h10 := H10
                by_cases hfp : fr < p
                · by_cases hk : tk = 0
                  · have hfp' : (p : Int) > (fr : Int) := by omega
                    have hk' : ¬ (tk : Int) > 0 := by omega
                    have HK : Hid (tk = 0) := hk
                    clear hk
                    go_wp2_with (at_builtin; refine wpList_pushR _ rfl _ _ 80 rfl W1.heap.size 83 iT _ 6 48 Tryz.underlying80 hiT hzT0 hzT1 hzT2 rfl (by decide) (by decide) _ _ _ rfl (World.ownsRow.alloc hown _) [_, _, _, _, _, _] _ _ rfl (by simp) rfl (by simp [Value.oneCell']) (by omega) (by simp; omega) ?_)
                    intro v2 w2 hown2 hg2
                    have hH2 := tok_other hown HH.out (by decide) hg2
                    have HB2 : Hid (Below W1.heap.size W1 w2) := (HBi.out.alloc hbz _).grown hg2 (by simp; omega) (fun y hy => (hown.lt y hy).1)
                    have d2 := cell_of hH2 2
                    simp only [List.getElem?_toArray, List.getElem?_cons_succ, List.getElem?_cons_zero] at d2
                    have HH2 : Hid _ := hH2
                    have HO2 : Hid (w2.ownsRow W1.heap.size 83 6 v2 (o ++ emitD ln tk bg fr p tB tE).length (docV (o ++ emitD ln tk bg fr p tB tE))) := by
                      show World.ownsRow _ _ _ _ _ _ _
                      rw [emit_code hfp HK.out, docV_snoc, List.length_append]
                      simp only [Int.ofNat_sub hgo1, Int.ofNat_sub (Nat.le_trans hgo1 hgo2), Int.ofNat_zero]
                      exact hown2
                    clear hown2 hg2 hH2
                    go_wp2
                    go_roundg (s.size + 1 - (p + 1))
                    case measure => omega
                    case rel => exact ⟨ln + 1, p + 1, p + 1, p + 1, o ++ emitD ln tk bg fr p tB tE, by omega, rfl, by go_num, by go_num, by go_num, by go_num, HPi.out.feed hplt H10.out, by omega, HO2.out, HB2.out, HH2.out⟩
                  · have hfp' : (p : Int) > (fr : Int) := by omega
                    have hk' : (tk : Int) > 0 := by omega
                    have HWB : Hid _ := within_any tB fr p
                    have HWE : Hid _ := within_any tE fr p
                    have hwb := wi_ge (p := tB) hgo2
                    have hwe := wi_ge (p := tE) hgo2
                    have HEm := emit_word (ln := ln) (bg := bg) (B := tB) (E := tE) hfp hk
                    generalize wi tB fr p = wb at *
                    generalize wi tE fr p = we at *
                    obtain ⟨wb1, wb2⟩ := hwb
                    obtain ⟨we1, we2⟩ := hwe
                    have HEm' : Hid _ := HEm
                    clear HEm
                    go_wp2_with fail
                    refine (HWB.out _).mono ?_
                    rintro ev wx ⟨rfl, rfl⟩
                    go_wp2_with fail
                    refine (HWE.out _).mono ?_
                    rintro ev wx ⟨rfl, rfl⟩
                    go_wp2_with (at_builtin; refine wpList_pushR _ rfl _ _ 80 rfl W1.heap.size 83 iT _ 6 48 Tryz.underlying80 hiT hzT0 hzT1 hzT2 rfl (by decide) (by decide) _ _ _ rfl (World.ownsRow.alloc hown _) [_, _, _, _, _, _] _ _ rfl (by simp) rfl (by simp [Value.oneCell']) (by omega) (by simp; omega) ?_)
                    intro v2 w2 hown2 hg2
                    have hH2 := tok_other hown HH.out (by decide) hg2
                    have HB2 : Hid (Below W1.heap.size W1 w2) := (HBi.out.alloc hbz _).grown hg2 (by simp; omega) (fun y hy => (hown.lt y hy).1)
                    have d2 := cell_of hH2 2
                    simp only [List.getElem?_toArray, List.getElem?_cons_succ, List.getElem?_cons_zero] at d2
                    have HH2 : Hid _ := hH2
                    have HO2 : Hid (w2.ownsRow W1.heap.size 83 6 v2 (o ++ emitD ln tk bg fr p tB tE).length (docV (o ++ emitD ln tk bg fr p tB tE))) := by
                      show World.ownsRow _ _ _ _ _ _ _
                      rw [HEm'.out, docV_snoc, List.length_append]
                      simp only [Int.ofNat_sub hgo1, Int.ofNat_sub (Nat.le_trans hgo1 hgo2), Int.ofNat_sub (Nat.le_trans hgo1 wb1), Int.ofNat_sub (Nat.le_trans hgo1 we1)]
                      exact hown2
                    clear hown2 hg2 hH2
                    go_wp2
                    go_roundg (s.size + 1 - (p + 1))
                    case measure => omega
                    case rel => exact ⟨ln + 1, p + 1, p + 1, p + 1, o ++ emitD ln tk bg fr p tB tE, by omega, rfl, by go_num, by go_num, by go_num, by go_num, HPi.out.feed hplt H10.out, by omega, HO2.out, HB2.out, HH2.out⟩
                · have hfp' : ¬ (p : Int) > (fr : Int) := by omega
                  have HO2 : Hid (wq.ownsRow W1.heap.size 83 6 (.slice qa o.length qc) (o ++ emitD ln tk bg fr p tB tE).length (docV (o ++ emitD ln tk bg fr p tB tE))) := by
                    show World.ownsRow _ _ _ _ _ _ _
                    rw [emit_no hfp, List.append_nil]
                    exact hown
                  have HB2 : Hid _ := HBi.out
                  have HH2 : Hid _ := HH.out
                  clear hown
                  go_wp2
                  go_roundg (s.size + 1 - (p + 1))
                  case measure => omega
                  case rel => exact ⟨ln + 1, p + 1, p + 1, p + 1, o ++ emitD ln tk bg fr p tB tE, by omega, rfl, by go_num, by go_num, by go_num, by go_num, HPi.out.feed hplt H10.out, by omega, HO2.out, HB2.out, HH2.out⟩
              · have r10 : ((c.toNat : Int) == 10) = false := by rw [hbp] at h10; simpa using h10
                have r10' : ((c.toNat : Int) != 10) = true := by rw [hbp] at h10; simpa using h10
                have HO : Hid (wq.ownsRow W1.heap.size 83 6 (.slice qa o.length qc) o.length (docV o)) := hown
                have H10 : Hid (¬ bt s p = 10) := h10
                clear hbp h10 hown
                go_wp2
                go_roundg (s.size + 1 - (p + 1))
                case measure => omega
                case rel => exact ⟨ln, bg, fr, p + 1, o, by omega, rfl, rfl, rfl, rfl, by go_num, HPi.out.step hplt H10.out, by omega, HO.out, HBi.out, HH.out⟩
            · have HPe : Hid (p = tT) := by show p = tT; omega
              have hplt' : ¬ (p : Int) < (tT : Int) := by omega
              by_cases hfp : fr < p
              · by_cases hk : tk = 0
                · have hfp' : (p : Int) > (fr : Int) := by omega
                  have hk' : ¬ (tk : Int) > 0 := by omega
                  have HK : Hid (tk = 0) := hk
                  clear hk
                  go_wp2_with (at_builtin; refine wpList_pushR _ rfl _ _ 80 rfl W1.heap.size 83 iT _ 6 48 Tryz.underlying80 hiT hzT0 hzT1 hzT2 rfl (by decide) (by decide) _ _ _ rfl (World.ownsRow.alloc hown _) [_, _, _, _, _, _] _ _ rfl (by simp) rfl (by simp [Value.oneCell']) (by omega) (by simp; omega) ?_)
                  intro v2 w2 hown2 hg2
                  have hH2 := tok_other hown HH.out (by decide) hg2
                  have HB2 : Hid (Below W1.heap.size W1 w2) := (HBi.out.alloc hbz _).grown hg2 (by simp; omega) (fun y hy => (hown.lt y hy).1)
                  have d2 := cell_of hH2 2
                  simp only [List.getElem?_toArray, List.getElem?_cons_succ, List.getElem?_cons_zero] at d2
                  have HH2 : Hid _ := hH2
                  have HO2 : Hid (w2.ownsRow W1.heap.size 83 6 v2 (o ++ emitD ln tk bg fr p tB tE).length (docV (o ++ emitD ln tk bg fr p tB tE))) := by
                    show World.ownsRow _ _ _ _ _ _ _
                    rw [emit_code hfp HK.out, docV_snoc, List.length_append]
                    simp only [Int.ofNat_sub hgo1, Int.ofNat_sub (Nat.le_trans hgo1 hgo2), Int.ofNat_zero]
                    exact hown2
                  clear hown2 hg2 hH2
                  go_wp2
                  go_roundg (s.size + 1 - (p + 1))
                  case measure => omega
                  case rel => exact ⟨ln, bg, fr, p + 1, o ++ emitD ln tk bg fr p tB tE, by omega, rfl, rfl, rfl, rfl, by go_num, HPi.out.stop HPe.out, by omega, HO2.out, HB2.out, HH2.out⟩
                · have hfp' : (p : Int) > (fr : Int) := by omega
                  have hk' : (tk : Int) > 0 := by omega
                  have HWB : Hid _ := within_any tB fr p
                  have HWE : Hid _ := within_any tE fr p
                  have hwb := wi_ge (p := tB) hgo2
                  have hwe := wi_ge (p := tE) hgo2
                  have HEm := emit_word (ln := ln) (bg := bg) (B := tB) (E := tE) hfp hk
                  generalize wi tB fr p = wb at *
                  generalize wi tE fr p = we at *
                  obtain ⟨wb1, wb2⟩ := hwb
                  obtain ⟨we1, we2⟩ := hwe
                  have HEm' : Hid _ := HEm
                  clear HEm
                  go_wp2_with fail
                  refine (HWB.out _).mono ?_
                  rintro ev wx ⟨rfl, rfl⟩
                  go_wp2_with fail
                  refine (HWE.out _).mono ?_
                  rintro ev wx ⟨rfl, rfl⟩
                  go_wp2_with (at_builtin; refine wpList_pushR _ rfl _ _ 80 rfl W1.heap.size 83 iT _ 6 48 Tryz.underlying80 hiT hzT0 hzT1 hzT2 rfl (by decide) (by decide) _ _ _ rfl (World.ownsRow.alloc hown _) [_, _, _, _, _, _] _ _ rfl (by simp) rfl (by simp [Value.oneCell']) (by omega) (by simp; omega) ?_)
                  intro v2 w2 hown2 hg2
                  have hH2 := tok_other hown HH.out (by decide) hg2
                  have HB2 : Hid (Below W1.heap.size W1 w2) := (HBi.out.alloc hbz _).grown hg2 (by simp; omega) (fun y hy => (hown.lt y hy).1)
                  have d2 := cell_of hH2 2
                  simp only [List.getElem?_toArray, List.getElem?_cons_succ, List.getElem?_cons_zero] at d2
                  have HH2 : Hid _ := hH2
                  have HO2 : Hid (w2.ownsRow W1.heap.size 83 6 v2 (o ++ emitD ln tk bg fr p tB tE).length (docV (o ++ emitD ln tk bg fr p tB tE))) := by
                    show World.ownsRow _ _ _ _ _ _ _
                    rw [HEm'.out, docV_snoc, List.length_append]
                    simp only [Int.ofNat_sub hgo1, Int.ofNat_sub (Nat.le_trans hgo1 hgo2), Int.ofNat_sub (Nat.le_trans hgo1 wb1), Int.ofNat_sub (Nat.le_trans hgo1 we1)]
                    exact hown2
                  clear hown2 hg2 hH2
                  go_wp2
                  go_roundg (s.size + 1 - (p + 1))
                  case measure => omega
                  case rel => exact ⟨ln, bg, fr, p + 1, o ++ emitD ln tk bg fr p tB tE, by omega, rfl, rfl, rfl, rfl, by go_num, HPi.out.stop HPe.out, by omega, HO2.out, HB2.out, HH2.out⟩
              · have hfp' : ¬ (p : Int) > (fr : Int) := by omega
                have HO2 : Hid (wq.ownsRow W1.heap.size 83 6 (.slice qa o.length qc) (o ++ emitD ln tk bg fr p tB tE).length (docV (o ++ emitD ln tk bg fr p tB tE))) := by
                  show World.ownsRow _ _ _ _ _ _ _
                  rw [emit_no hfp, List.append_nil]
                  exact hown
                have HB2 : Hid _ := HBi.out
                have HH2 : Hid _ := HH.out
                clear hown
                go_wp2
                go_roundg (s.size + 1 - (p + 1))
                case measure => omega
                case rel => exact ⟨ln, bg, fr, p + 1, o ++ emitD ln tk bg fr p tB tE, by omega, rfl, rfl, rfl, rfl, by go_num, HPi.out.stop HPe.out, by omega, HO2.out, HB2.out, HH2.out⟩
          · have hple' : ¬ (p : Int) ≤ (tT : Int) := by omega
            have HO : Hid (wq.ownsRow W1.heap.size 83 6 (.slice qa o.length qc) o.length (docV o)) := hown
            have HD : Hid (o ++ docD s ts2 ln bg = all) := hP.done hple
            clear hP hb hH hown c0 c1 c3 c4
            go_wp2
            go_roundg (n - (i + 1))
            case measure => omega
            case rel => exact ⟨i + 1, ln, bg, o, by omega, rfl, by go_num, rfl, rfl, hlnb, HTC2.out.mono hbT, by rw [← HTS2.out]; exact HD.out, HO.out, HBi.out⟩
      · obtain rfl : i = n := by omega
        have hin : ¬ (i : Int) < (i : Int) := by omega
        have ho : o = all := by rw [← hall, List.drop_of_length_le (by rw [HN.out]; exact Nat.le_refl _), docD, List.append_nil]
        subst ho
        have HB : Hid (Below W1.heap.size W1 wo) := hb
        have HO : Hid (wo.ownsRow W1.heap.size 83 6 (.slice oa o.length oc) o.length (docV o)) := hown
        clear hown hb htc hall HAll
        go_wp2
        go_ret
        exact ⟨_, rfl, own_down HO.out hz1, HB1.out.trans (HB.out.mono hz1)⟩
end Go.Proofs.YtkbinfhclaafhaaGreatDoor
