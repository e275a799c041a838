import Derived.Test.YtkbinfhclaafhaaGreatDoorM14
import Derived.Deep.DeepCutAuto
namespace Go.Proofs.YtkbinfhclaafhaaGreatDoor
open Go.RowKit
theorem mt_gt (cs : List Int) (k : Nat) (h : k < cs.length) (hi : isoB (cs.getD k 0) = true) : k < mt cs k := by
 have hs := MtTo.start cs k (by omega)
 have hc : cs.getD k 0 ≠ 21 := by intro e; rw [e, isoB_pdi] at hi; cases hi
 have h1 := hs.plain h hc
 have : mt cs k = cs.length ∨ ∃ d, mtL (cs.drop (k + 1)) (if isoB (cs.getD k 0) = true then (0 : Int) + 1 else 0) = some d ∧ mt cs k = k + (d + (k + 1 - k)) := by
  unfold mt
  rw [h1.2.2]
  cases hm : mtL (cs.drop (k + 1)) (if isoB (cs.getD k 0) = true then (0 : Int) + 1 else 0) with
  | none => exact .inl rfl
  | some d => exact .inr ⟨d, rfl, rfl⟩
 rcases this with h' | ⟨d, _, h'⟩ <;> omega
theorem IntsAt.sub {w : World} {b off : Nat} {cs : List Int} (h : IntsAt w b off cs) (m a : Nat) (hm : m ≤ cs.length) : IntsAt w b (off + a) ((cs.take m).drop a) := by
 intro i hi
 simp at hi
 have := h (a + i) (by omega)
 rw [show off + a + i = off + (a + i) by omega, this]
 simp [List.getD_eq_getElem?_getD, List.getElem?_drop, List.getElem?_take]
 rw [if_pos (by omega)]
theorem IntsAt.keep {w w' : World} {B b off : Nat} {l : List Int} (h : IntsAt w b off l) (hb : Below B w w') (hlt : b < B) : IntsAt w' b off l := fun i hi => by rw [hb.cell (p := ⟨b, off + i, none⟩) hlt]; exact h i hi
theorem kind_over {c c0 : Int} (e : Ent) (hx : c = c0) (hl : leftB c = true) (ho : 0 ≤ e.o) : e.o = kindOf c0 e := by subst hx; rw [kindOf, if_pos ⟨hl, ho⟩]
theorem kind_plain {c c0 : Int} (e : Ent) (hx : c = c0) (ho : e.o < 0) : c = kindOf c0 e := by subst hx; rw [kindOf, if_neg (fun h => by omega)]
theorem kind_out {c c0 : Int} {e : Ent} (hx : c = c0) (hl : leftB c = false) : c = kindOf c0 e := by subst hx; rw [kindOf, if_neg (fun h => by rw [hl] at h; cases h.1)]
theorem left_at {c c0 : Int} {q : Bool} (hx : c = c0) (hl : leftB c = q) : q = leftB c0 := by rw [← hx, hl]
set_option maxRecDepth 100000 in
set_option maxHeartbeats 32000000 in
theorem explicit_row (cs : List Int) (para : Int) (b off cap len : Nat) (w : World) (hl : cs.length = len) (hn : len ≤ 100000) (hcap : len ≤ cap) (hc : IntsAt w b off cs) (hb : b < w.heap.size) (hp : 0 ≤ para ∧ para ≤ 125) :
  Calls Tryz.prog 71 #[.slice (some ⟨b, off, none⟩) len cap, .int .i64 para] w fun e w' => ∃ g1 g2 g3, e = .returned (.tuple #[.slice (some ⟨g1, 0, none⟩) len len, .slice (some ⟨g2, 0, none⟩) len len, .slice (some ⟨g3, 0, none⟩) len len]) ∧ Below w.heap.size w w' ∧
   RowAt w' w.heap.size 3 g1 len (iv (xLevels cs para)) ∧ RowAt w' w.heap.size 3 g2 len (iv (xKinds cs para)) ∧ RowAt w' w.heap.size 4 g3 len (bv (xLeft cs)) := by
 have hmk1 := run_make_row' (P := Tryz.prog) 31 3 (.int .i64 0) 8 Tryz.underlying31 Tryz.infoI8 rfl .i64 .i64 len (by omega) (by omega)
 have hmk2 := run_make_row' (P := Tryz.prog) 36 4 (.bool false) 1 Tryz.underlying36 Tryz.infoBool rfl .i64 .i64 len (by omega) (by omega)
 have HC : Hid (IntsAt w b off cs) := hc
 have HL : Hid (cs.length = len) := hl
 have HP : Hid (0 ≤ para ∧ para ≤ 125) := hp
 have HCap : Hid (len ≤ cap) := hcap
 clear hc hl hp hcap
 go_enter Tryz.func71, Tryz.ntmps71
 go_wp2
 have HB0 := XRk.start cs para w len HL.out hn
 have HGs : Hid (Gs w.heap.size (w.heap.size + 1) (w.heap.size + 1 + 1) (w.heap.size + 1 + 1 + 1) (w.heap.size + 1 + 1 + 1 + 1)) := ⟨rfl, rfl, rfl, rfl⟩
 generalize w.heap.size + 1 + 1 + 1 + 1 = g4 at HGs ⊢
 generalize w.heap.size + 1 + 1 + 1 = g3 at HGs ⊢
 generalize w.heap.size + 1 + 1 = g2 at HGs ⊢
 generalize w.heap.size + 1 = s at HGs ⊢
 have HB : Hid _ := HB0
 clear HB0
 go_loopg [11] len (fun gk i wr => ∃ k : Nat, k ≤ len ∧ gk = len - k ∧ i = .int .i64 k ∧ XRk cs para w wr w.heap.size len (xAt cs para k) k)
 case atStart =>
  exact ⟨0, by omega, rfl, rfl, HB.out⟩
 case round =>
  obtain ⟨k, hk, rfl, rfl, hR⟩ := hrel
  clear hmk1 hmk2 HB
  have HR : Hid (XRk cs para w wr w.heap.size len (xAt cs para k) k) := hR
  clear hR
  by_cases hlt : k < len
  ·have HK : Hid (k < cs.length) := by show k < cs.length; rw [HL.out]; exact hlt
   have hcell : wr.cell? ⟨b, off + k, none⟩ = some (.int .i64 (cs.getD k 0)) := by rw [HR.out.be.cell (p := ⟨b, off + k, none⟩) hb]; exact HC.out k HK.out
   have HO : Hid (XOk k (xAt cs para k)) := xAt_ok cs para HP.out k
   have HN : Hid (xAt cs para (k + 1) = xPost cs k (xPre (xAt cs para k) (cs.getD k 0)) (cs.getD k 0)) := rfl
   have HTop : Hid (xTop cs para k = topE (xPre (xAt cs para k) (cs.getD k 0)).st) := rfl
   obtain ⟨c, hx⟩ : ∃ c, c = cs.getD k 0 := ⟨_, rfl⟩
   have HX : Hid (c = cs.getD k 0) := hx
   rw [← hx] at hcell HN HTop
   clear hx
   generalize hxx : xAt cs para k = x at HR HO HN HTop
   clear hxx
   by_cases h21 : c = 21
   ·subst h21
    have HLF : Hid (leftB 21 = true) := rfl
    go_wp2_with fail
    refine (end_xr HGs.out.s HR.out HO.out (by omega)).mono ?_
    rintro ev wy ⟨rfl, hRy⟩
    have HY : Hid (XRk cs para w wy w.heap.size len (endX x) k) := hRy
    have HOy : Hid (XOk k (endX x)) := HO.out.end
    have HTy : Hid (xTop cs para k = topE (endX x).st) := HTop.out
    have HNy : Hid (xAt cs para (k + 1) = endX x) := HN.out
    clear hRy HR HO HTop hcell HN
    generalize endX x = y at HY HOy HTy HNy
    go_wp2_with fail
    refine (top_xr HGs.out.s HY.out HOy.out).mono ?_
    rintro ev w1 ⟨rfl, hR1⟩
    have HR1 : Hid (XRk cs para w w1 w.heap.size len y k) := hR1
    clear hR1 HY
    obtain ⟨e, he⟩ : ∃ e, e = topE y.st := ⟨_, rfl⟩
    rw [← he] at HTy ⊢
    clear he
    obtain ⟨el, eo, ei⟩ := e
    obtain ⟨⟨⟨u2, l2⟩, ⟨u3, l3⟩, ⟨u4, l4⟩, f2, f3, f4⟩, t0, t1, ⟨n1, n2, n3, n4, n5, n6⟩, n7, n8, n9, n10, n11, n12⟩ := HR1.out.ready HGs.out HL.out hk hlt (.int .i64 el) (.int .i64 eo) (.bool ei)
    by_cases ho : 0 ≤ eo
    ·go_wp2
     go_roundg (len - (k + 1))
     case measure => omega
     case rel => exact ⟨k + 1, by omega, rfl, by simp, HNy.out ▸ HR1.out.stored2 HGs.out HK.out ⟨el, eo, ei⟩ HTy.out.symm _ _ _ _ _ rfl (kind_over ⟨el, eo, ei⟩ HX.out HLF.out ho) (left_at HX.out HLF.out)⟩
    ·go_wp2
     go_roundg (len - (k + 1))
     case measure => omega
     case rel => exact ⟨k + 1, by omega, rfl, by simp, HNy.out ▸ HR1.out.stored HGs.out HK.out ⟨el, eo, ei⟩ HTy.out.symm _ _ _ _ rfl (kind_plain ⟨el, eo, ei⟩ HX.out ho) (left_at HX.out HLF.out)⟩
   by_cases h13 : c = 13
   ·subst h13
    have HLF : Hid (leftB 13 = false) := rfl
    have HY : Hid (XRk cs para w wr w.heap.size len x k) := HR.out
    have HOy : Hid (XOk k x) := HO.out
    have HTy : Hid (xTop cs para k = topE x.st) := by have := HTop.out; rw [xPre, if_neg (by omega)] at this; exact this
    have HNy : Hid (xAt cs para (k + 1) = embedX x 13) := by
     have := HN.out
     rw [xPre, if_neg (by omega)] at this
     rw [this]
     show xPost cs k x _ = _
     simp [xPost] <;> omega
    clear HR HO HTop HN
    generalize x = y at HY HOy HTy HNy
    go_wp2_with fail
    refine (top_xr HGs.out.s HY.out HOy.out).mono ?_
    rintro ev w1 ⟨rfl, hR1⟩
    have HR1 : Hid (XRk cs para w w1 w.heap.size len y k) := hR1
    clear hR1 HY
    obtain ⟨e, he⟩ : ∃ e, e = topE y.st := ⟨_, rfl⟩
    rw [← he] at HTy ⊢
    clear he
    obtain ⟨el, eo, ei⟩ := e
    obtain ⟨⟨⟨u2, l2⟩, ⟨u3, l3⟩, ⟨u4, l4⟩, f2, f3, f4⟩, t0, t1, ⟨n1, n2, n3, n4, n5, n6⟩, n7, n8, n9, n10, n11, n12⟩ := HR1.out.ready HGs.out HL.out hk hlt (.int .i64 el) (.int .i64 eo) (.bool ei)
    go_wp2_with fail
    refine (embed_xr 13 HGs.out.s (HR1.out.stored HGs.out HK.out ⟨el, eo, ei⟩ HTy.out.symm _ _ _ _ rfl (kind_out HX.out HLF.out) (left_at HX.out HLF.out)) HOy.out (by omega) (by omega)).mono ?_
    rintro ev w2 ⟨rfl, hR2⟩
    have HR2 : Hid _ := hR2
    clear hR2
    go_wp2
    go_roundg (len - (k + 1))
    case measure => omega
    case rel => exact ⟨k + 1, by omega, rfl, by simp, HNy.out ▸ HR2.out⟩
   by_cases h14 : c = 14
   ·subst h14
    have HLF : Hid (leftB 14 = false) := rfl
    have HY : Hid (XRk cs para w wr w.heap.size len x k) := HR.out
    have HOy : Hid (XOk k x) := HO.out
    have HTy : Hid (xTop cs para k = topE x.st) := by have := HTop.out; rw [xPre, if_neg (by omega)] at this; exact this
    have HNy : Hid (xAt cs para (k + 1) = embedX x 14) := by
     have := HN.out
     rw [xPre, if_neg (by omega)] at this
     rw [this]
     show xPost cs k x _ = _
     simp [xPost] <;> omega
    clear HR HO HTop HN
    generalize x = y at HY HOy HTy HNy
    go_wp2_with fail
    refine (top_xr HGs.out.s HY.out HOy.out).mono ?_
    rintro ev w1 ⟨rfl, hR1⟩
    have HR1 : Hid (XRk cs para w w1 w.heap.size len y k) := hR1
    clear hR1 HY
    obtain ⟨e, he⟩ : ∃ e, e = topE y.st := ⟨_, rfl⟩
    rw [← he] at HTy ⊢
    clear he
    obtain ⟨el, eo, ei⟩ := e
    obtain ⟨⟨⟨u2, l2⟩, ⟨u3, l3⟩, ⟨u4, l4⟩, f2, f3, f4⟩, t0, t1, ⟨n1, n2, n3, n4, n5, n6⟩, n7, n8, n9, n10, n11, n12⟩ := HR1.out.ready HGs.out HL.out hk hlt (.int .i64 el) (.int .i64 eo) (.bool ei)
    go_wp2_with fail
    refine (embed_xr 14 HGs.out.s (HR1.out.stored HGs.out HK.out ⟨el, eo, ei⟩ HTy.out.symm _ _ _ _ rfl (kind_out HX.out HLF.out) (left_at HX.out HLF.out)) HOy.out (by omega) (by omega)).mono ?_
    rintro ev w2 ⟨rfl, hR2⟩
    have HR2 : Hid _ := hR2
    clear hR2
    go_wp2
    go_roundg (len - (k + 1))
    case measure => omega
    case rel => exact ⟨k + 1, by omega, rfl, by simp, HNy.out ▸ HR2.out⟩
   by_cases h15 : c = 15
   ·subst h15
    have HLF : Hid (leftB 15 = false) := rfl
    have HY : Hid (XRk cs para w wr w.heap.size len x k) := HR.out
    have HOy : Hid (XOk k x) := HO.out
    have HTy : Hid (xTop cs para k = topE x.st) := by have := HTop.out; rw [xPre, if_neg (by omega)] at this; exact this
    have HNy : Hid (xAt cs para (k + 1) = embedX x 15) := by
     have := HN.out
     rw [xPre, if_neg (by omega)] at this
     rw [this]
     show xPost cs k x _ = _
     simp [xPost] <;> omega
    clear HR HO HTop HN
    generalize x = y at HY HOy HTy HNy
    go_wp2_with fail
    refine (top_xr HGs.out.s HY.out HOy.out).mono ?_
    rintro ev w1 ⟨rfl, hR1⟩
    have HR1 : Hid (XRk cs para w w1 w.heap.size len y k) := hR1
    clear hR1 HY
    obtain ⟨e, he⟩ : ∃ e, e = topE y.st := ⟨_, rfl⟩
    rw [← he] at HTy ⊢
    clear he
    obtain ⟨el, eo, ei⟩ := e
    obtain ⟨⟨⟨u2, l2⟩, ⟨u3, l3⟩, ⟨u4, l4⟩, f2, f3, f4⟩, t0, t1, ⟨n1, n2, n3, n4, n5, n6⟩, n7, n8, n9, n10, n11, n12⟩ := HR1.out.ready HGs.out HL.out hk hlt (.int .i64 el) (.int .i64 eo) (.bool ei)
    go_wp2_with fail
    refine (embed_xr 15 HGs.out.s (HR1.out.stored HGs.out HK.out ⟨el, eo, ei⟩ HTy.out.symm _ _ _ _ rfl (kind_out HX.out HLF.out) (left_at HX.out HLF.out)) HOy.out (by omega) (by omega)).mono ?_
    rintro ev w2 ⟨rfl, hR2⟩
    have HR2 : Hid _ := hR2
    clear hR2
    go_wp2
    go_roundg (len - (k + 1))
    case measure => omega
    case rel => exact ⟨k + 1, by omega, rfl, by simp, HNy.out ▸ HR2.out⟩
   by_cases h16 : c = 16
   ·subst h16
    have HLF : Hid (leftB 16 = false) := rfl
    have HY : Hid (XRk cs para w wr w.heap.size len x k) := HR.out
    have HOy : Hid (XOk k x) := HO.out
    have HTy : Hid (xTop cs para k = topE x.st) := by have := HTop.out; rw [xPre, if_neg (by omega)] at this; exact this
    have HNy : Hid (xAt cs para (k + 1) = embedX x 16) := by
     have := HN.out
     rw [xPre, if_neg (by omega)] at this
     rw [this]
     show xPost cs k x _ = _
     simp [xPost] <;> omega
    clear HR HO HTop HN
    generalize x = y at HY HOy HTy HNy
    go_wp2_with fail
    refine (top_xr HGs.out.s HY.out HOy.out).mono ?_
    rintro ev w1 ⟨rfl, hR1⟩
    have HR1 : Hid (XRk cs para w w1 w.heap.size len y k) := hR1
    clear hR1 HY
    obtain ⟨e, he⟩ : ∃ e, e = topE y.st := ⟨_, rfl⟩
    rw [← he] at HTy ⊢
    clear he
    obtain ⟨el, eo, ei⟩ := e
    obtain ⟨⟨⟨u2, l2⟩, ⟨u3, l3⟩, ⟨u4, l4⟩, f2, f3, f4⟩, t0, t1, ⟨n1, n2, n3, n4, n5, n6⟩, n7, n8, n9, n10, n11, n12⟩ := HR1.out.ready HGs.out HL.out hk hlt (.int .i64 el) (.int .i64 eo) (.bool ei)
    go_wp2_with fail
    refine (embed_xr 16 HGs.out.s (HR1.out.stored HGs.out HK.out ⟨el, eo, ei⟩ HTy.out.symm _ _ _ _ rfl (kind_out HX.out HLF.out) (left_at HX.out HLF.out)) HOy.out (by omega) (by omega)).mono ?_
    rintro ev w2 ⟨rfl, hR2⟩
    have HR2 : Hid _ := hR2
    clear hR2
    go_wp2
    go_roundg (len - (k + 1))
    case measure => omega
    case rel => exact ⟨k + 1, by omega, rfl, by simp, HNy.out ▸ HR2.out⟩
   by_cases h17 : c = 17
   ·subst h17
    have HLF : Hid (leftB 17 = false) := rfl
    have HY : Hid (XRk cs para w wr w.heap.size len x k) := HR.out
    have HOy : Hid (XOk k x) := HO.out
    have HTy : Hid (xTop cs para k = topE x.st) := by have := HTop.out; rw [xPre, if_neg (by omega)] at this; exact this
    have HNy : Hid (xAt cs para (k + 1) = popX x) := by
     have := HN.out
     rw [xPre, if_neg (by omega)] at this
     rw [this]
     show xPost cs k x _ = _
     simp [xPost] <;> omega
    clear HR HO HTop HN
    generalize x = y at HY HOy HTy HNy
    go_wp2_with fail
    refine (top_xr HGs.out.s HY.out HOy.out).mono ?_
    rintro ev w1 ⟨rfl, hR1⟩
    have HR1 : Hid (XRk cs para w w1 w.heap.size len y k) := hR1
    clear hR1 HY
    obtain ⟨e, he⟩ : ∃ e, e = topE y.st := ⟨_, rfl⟩
    rw [← he] at HTy ⊢
    clear he
    obtain ⟨el, eo, ei⟩ := e
    obtain ⟨⟨⟨u2, l2⟩, ⟨u3, l3⟩, ⟨u4, l4⟩, f2, f3, f4⟩, t0, t1, ⟨n1, n2, n3, n4, n5, n6⟩, n7, n8, n9, n10, n11, n12⟩ := HR1.out.ready HGs.out HL.out hk hlt (.int .i64 el) (.int .i64 eo) (.bool ei)
    go_wp2_with fail
    refine (pop_xr HGs.out.s (HR1.out.stored HGs.out HK.out ⟨el, eo, ei⟩ HTy.out.symm _ _ _ _ rfl (kind_out HX.out HLF.out) (left_at HX.out HLF.out)) HOy.out (by omega)).mono ?_
    rintro ev w2 ⟨rfl, hR2⟩
    have HR2 : Hid _ := hR2
    clear hR2
    go_wp2
    go_roundg (len - (k + 1))
    case measure => omega
    case rel => exact ⟨k + 1, by omega, rfl, by simp, HNy.out ▸ HR2.out⟩
   by_cases h18 : c = 18
   ·subst h18
    have HLF : Hid (leftB 18 = true) := rfl
    have HY : Hid (XRk cs para w wr w.heap.size len x k) := HR.out
    have HOy : Hid (XOk k x) := HO.out
    have HTy : Hid (xTop cs para k = topE x.st) := by have := HTop.out; rw [xPre, if_neg (by omega)] at this; exact this
    have HNy : Hid (xAt cs para (k + 1) = beginX x 0) := by
     have := HN.out
     rw [xPre, if_neg (by omega)] at this
     rw [this]
     show xPost cs k x _ = _
     simp [xPost] <;> omega
    clear HR HO HTop HN
    generalize x = y at HY HOy HTy HNy
    go_wp2_with fail
    refine (top_xr HGs.out.s HY.out HOy.out).mono ?_
    rintro ev w1 ⟨rfl, hR1⟩
    have HR1 : Hid (XRk cs para w w1 w.heap.size len y k) := hR1
    clear hR1 HY
    obtain ⟨e, he⟩ : ∃ e, e = topE y.st := ⟨_, rfl⟩
    rw [← he] at HTy ⊢
    clear he
    obtain ⟨el, eo, ei⟩ := e
    obtain ⟨⟨⟨u2, l2⟩, ⟨u3, l3⟩, ⟨u4, l4⟩, f2, f3, f4⟩, t0, t1, ⟨n1, n2, n3, n4, n5, n6⟩, n7, n8, n9, n10, n11, n12⟩ := HR1.out.ready HGs.out HL.out hk hlt (.int .i64 el) (.int .i64 eo) (.bool ei)
    by_cases ho : 0 ≤ eo
    ·go_wp2_with fail
     refine (begin_xr 0 HGs.out.s (HR1.out.stored2 HGs.out HK.out ⟨el, eo, ei⟩ HTy.out.symm _ _ _ _ _ rfl (kind_over ⟨el, eo, ei⟩ HX.out HLF.out ho) (left_at HX.out HLF.out)) HOy.out (by omega)).mono ?_
     rintro ev w2 ⟨rfl, hR2⟩
     have HR2 : Hid _ := hR2
     clear hR2
     go_wp2
     go_roundg (len - (k + 1))
     case measure => omega
     case rel => exact ⟨k + 1, by omega, rfl, by simp, HNy.out ▸ HR2.out⟩
    ·go_wp2_with fail
     refine (begin_xr 0 HGs.out.s (HR1.out.stored HGs.out HK.out ⟨el, eo, ei⟩ HTy.out.symm _ _ _ _ rfl (kind_plain ⟨el, eo, ei⟩ HX.out ho) (left_at HX.out HLF.out)) HOy.out (by omega)).mono ?_
     rintro ev w2 ⟨rfl, hR2⟩
     have HR2 : Hid _ := hR2
     clear hR2
     go_wp2
     go_roundg (len - (k + 1))
     case measure => omega
     case rel => exact ⟨k + 1, by omega, rfl, by simp, HNy.out ▸ HR2.out⟩
   by_cases h19 : c = 19
   ·subst h19
    have HLF : Hid (leftB 19 = true) := rfl
    have HY : Hid (XRk cs para w wr w.heap.size len x k) := HR.out
    have HOy : Hid (XOk k x) := HO.out
    have HTy : Hid (xTop cs para k = topE x.st) := by have := HTop.out; rw [xPre, if_neg (by omega)] at this; exact this
    have HNy : Hid (xAt cs para (k + 1) = beginX x 1) := by
     have := HN.out
     rw [xPre, if_neg (by omega)] at this
     rw [this]
     show xPost cs k x _ = _
     simp [xPost] <;> omega
    clear HR HO HTop HN
    generalize x = y at HY HOy HTy HNy
    go_wp2_with fail
    refine (top_xr HGs.out.s HY.out HOy.out).mono ?_
    rintro ev w1 ⟨rfl, hR1⟩
    have HR1 : Hid (XRk cs para w w1 w.heap.size len y k) := hR1
    clear hR1 HY
    obtain ⟨e, he⟩ : ∃ e, e = topE y.st := ⟨_, rfl⟩
    rw [← he] at HTy ⊢
    clear he
    obtain ⟨el, eo, ei⟩ := e
    obtain ⟨⟨⟨u2, l2⟩, ⟨u3, l3⟩, ⟨u4, l4⟩, f2, f3, f4⟩, t0, t1, ⟨n1, n2, n3, n4, n5, n6⟩, n7, n8, n9, n10, n11, n12⟩ := HR1.out.ready HGs.out HL.out hk hlt (.int .i64 el) (.int .i64 eo) (.bool ei)
    by_cases ho : 0 ≤ eo
    ·go_wp2_with fail
     refine (begin_xr 1 HGs.out.s (HR1.out.stored2 HGs.out HK.out ⟨el, eo, ei⟩ HTy.out.symm _ _ _ _ _ rfl (kind_over ⟨el, eo, ei⟩ HX.out HLF.out ho) (left_at HX.out HLF.out)) HOy.out (by omega)).mono ?_
     rintro ev w2 ⟨rfl, hR2⟩
     have HR2 : Hid _ := hR2
     clear hR2
     go_wp2
     go_roundg (len - (k + 1))
     case measure => omega
     case rel => exact ⟨k + 1, by omega, rfl, by simp, HNy.out ▸ HR2.out⟩
    ·go_wp2_with fail
     refine (begin_xr 1 HGs.out.s (HR1.out.stored HGs.out HK.out ⟨el, eo, ei⟩ HTy.out.symm _ _ _ _ rfl (kind_plain ⟨el, eo, ei⟩ HX.out ho) (left_at HX.out HLF.out)) HOy.out (by omega)).mono ?_
     rintro ev w2 ⟨rfl, hR2⟩
     have HR2 : Hid _ := hR2
     clear hR2
     go_wp2
     go_roundg (len - (k + 1))
     case measure => omega
     case rel => exact ⟨k + 1, by omega, rfl, by simp, HNy.out ▸ HR2.out⟩
   by_cases h20 : c = 20
   ·subst h20
    have HLF : Hid (leftB 20 = true) := rfl
    have HY : Hid (XRk cs para w wr w.heap.size len x k) := HR.out
    have HOy : Hid (XOk k x) := HO.out
    have HTy : Hid (xTop cs para k = topE x.st) := by have := HTop.out; rw [xPre, if_neg (by omega)] at this; exact this
    have HNy : Hid (xAt cs para (k + 1) = beginX x (fsiOdd cs k)) := by
     have := HN.out
     rw [xPre, if_neg (by omega)] at this
     rw [this]
     show xPost cs k x _ = _
     simp [xPost] <;> omega
    clear HR HO HTop HN
    generalize x = y at HY HOy HTy HNy
    have hm1 : k < mt cs k := mt_gt cs k HK.out (by rw [← HX.out]; rfl)
    have hm2 : mt cs k ≤ len := by have := (mt_le cs k (by have := HK.out; omega)).2; rw [HL.out] at this; exact this
    have hcap := HCap.out
    have HMt : Hid (∀ W, IntsAt W b off cs → Calls Tryz.prog 115 #[.slice (some ⟨b, off, none⟩) len cap, .int .i64 k] W fun e w' => e = .returned (.int .i64 (mt cs k)) ∧ w' = W) := fun W h => matching_row cs k b off cap len W HL.out (by omega) hk h
    have HFd : Hid (∀ off' cap' W, (off' = off + (k + 1) ∨ mt cs k = k + 1) → IntsAt W b off cs → Calls Tryz.prog 70 #[.slice (some ⟨b, off', none⟩) (mt cs k - (k + 1)) cap'] W fun e w' => e = .returned (.int .i64 (fsiOdd cs k)) ∧ w' = W) := by
     intro off' cap' W ho h
     refine found_row ((cs.take (mt cs k)).drop (k + 1)) b off' cap' (mt cs k - (k + 1)) W (by simp; have := HL.out; omega) (by omega) ?_
     rcases ho with rfl | ho
     ·exact h.sub _ _ (by have := HL.out; omega)
     ·intro i hi; simp at hi; omega
    generalize mt cs k = m at hm1 hm2 HMt HFd
    generalize fsiOdd cs k = odd at HNy HFd
    go_wp2_with fail
    refine (top_xr HGs.out.s HY.out HOy.out).mono ?_
    rintro ev w1 ⟨rfl, hR1⟩
    have HR1 : Hid (XRk cs para w w1 w.heap.size len y k) := hR1
    clear hR1 HY
    obtain ⟨e, he⟩ : ∃ e, e = topE y.st := ⟨_, rfl⟩
    rw [← he] at HTy ⊢
    clear he
    obtain ⟨el, eo, ei⟩ := e
    obtain ⟨⟨⟨u2, l2⟩, ⟨u3, l3⟩, ⟨u4, l4⟩, f2, f3, f4⟩, t0, t1, ⟨n1, n2, n3, n4, n5, n6⟩, n7, n8, n9, n10, n11, n12⟩ := HR1.out.ready HGs.out HL.out hk hlt (.int .i64 el) (.int .i64 eo) (.bool ei)
    by_cases ho : 0 ≤ eo
    ·go_wp2_with fail
     have HR2 : Hid (XRk cs para w (((((w1.alloc (.cells #[.int .i64 el, .int .i64 eo, .bool ei] 181)).setCell ⟨g2, k, none⟩ (.int .i64 el)).setCell ⟨g3, k, none⟩ (.int .i64 20)).setCell ⟨g4, k, none⟩ (.bool true)).setCell ⟨g3, k, none⟩ (.int .i64 eo)) w.heap.size len y (k + 1)) := HR1.out.stored2 HGs.out HK.out ⟨el, eo, ei⟩ HTy.out.symm _ _ _ _ _ rfl (kind_over ⟨el, eo, ei⟩ HX.out HLF.out ho) (left_at HX.out HLF.out)
     refine (HMt.out _ (HC.out.keep HR2.out.be hb)).mono ?_
     rintro ev _ ⟨rfl, rfl⟩
     go_wp2_with fail
     ·refine (HFd.out off 0 _ (.inr (by omega)) (HC.out.keep HR2.out.be hb)).mono ?_
      have HE : Hid (cap = k + 1) := h
      clear h
      rintro ev _ ⟨rfl, rfl⟩
      go_wp2_with fail
      refine (begin_xr odd HGs.out.s HR2.out HOy.out (by omega)).mono ?_
      rintro ev w2 ⟨rfl, hR2⟩
      have HR3 : Hid _ := hR2
      clear hR2
      go_wp2
      rw [← HE.out]
      go_roundg (len - (k + 1))
      case measure => omega
      case rel => exact ⟨k + 1, by omega, rfl, by simp, HNy.out ▸ HR3.out⟩
     ·refine (HFd.out (off + (k + 1)) (cap - (k + 1)) _ (.inl rfl) (HC.out.keep HR2.out.be hb)).mono ?_
      rintro ev _ ⟨rfl, rfl⟩
      go_wp2_with fail
      refine (begin_xr odd HGs.out.s HR2.out HOy.out (by omega)).mono ?_
      rintro ev w2 ⟨rfl, hR2⟩
      have HR3 : Hid _ := hR2
      clear hR2
      go_wp2
      go_roundg (len - (k + 1))
      case measure => omega
      case rel => exact ⟨k + 1, by omega, rfl, by simp, HNy.out ▸ HR3.out⟩
    ·go_wp2_with fail
     have HR2 : Hid (XRk cs para w ((((w1.alloc (.cells #[.int .i64 el, .int .i64 eo, .bool ei] 181)).setCell ⟨g2, k, none⟩ (.int .i64 el)).setCell ⟨g3, k, none⟩ (.int .i64 20)).setCell ⟨g4, k, none⟩ (.bool true)) w.heap.size len y (k + 1)) := HR1.out.stored HGs.out HK.out ⟨el, eo, ei⟩ HTy.out.symm _ _ _ _ rfl (kind_plain ⟨el, eo, ei⟩ HX.out ho) (left_at HX.out HLF.out)
     refine (HMt.out _ (HC.out.keep HR2.out.be hb)).mono ?_
     rintro ev _ ⟨rfl, rfl⟩
     go_wp2_with fail
     ·refine (HFd.out off 0 _ (.inr (by omega)) (HC.out.keep HR2.out.be hb)).mono ?_
      have HE : Hid (cap = k + 1) := h
      clear h
      rintro ev _ ⟨rfl, rfl⟩
      go_wp2_with fail
      refine (begin_xr odd HGs.out.s HR2.out HOy.out (by omega)).mono ?_
      rintro ev w2 ⟨rfl, hR2⟩
      have HR3 : Hid _ := hR2
      clear hR2
      go_wp2
      rw [← HE.out]
      go_roundg (len - (k + 1))
      case measure => omega
      case rel => exact ⟨k + 1, by omega, rfl, by simp, HNy.out ▸ HR3.out⟩
     ·refine (HFd.out (off + (k + 1)) (cap - (k + 1)) _ (.inl rfl) (HC.out.keep HR2.out.be hb)).mono ?_
      rintro ev _ ⟨rfl, rfl⟩
      go_wp2_with fail
      refine (begin_xr odd HGs.out.s HR2.out HOy.out (by omega)).mono ?_
      rintro ev w2 ⟨rfl, hR2⟩
      have HR3 : Hid _ := hR2
      clear hR2
      go_wp2
      go_roundg (len - (k + 1))
      case measure => omega
      case rel => exact ⟨k + 1, by omega, rfl, by simp, HNy.out ▸ HR3.out⟩
   by_cases h9 : c = 9
   ·subst h9
    have HLF : Hid (leftB 9 = false) := rfl
    have HY : Hid (XRk cs para w wr w.heap.size len x k) := HR.out
    have HOy : Hid (XOk k x) := HO.out
    have HTy : Hid (xTop cs para k = topE x.st) := by have := HTop.out; rw [xPre, if_neg (by omega)] at this; exact this
    have HNy : Hid (xAt cs para (k + 1) = x) := by
     have := HN.out
     rw [xPre, if_neg (by omega)] at this
     rw [this]
     show xPost cs k x _ = _
     simp [xPost] <;> omega
    clear HR HO HTop HN
    generalize x = y at HY HOy HTy HNy
    go_wp2_with fail
    refine (top_xr HGs.out.s HY.out HOy.out).mono ?_
    rintro ev w1 ⟨rfl, hR1⟩
    have HR1 : Hid (XRk cs para w w1 w.heap.size len y k) := hR1
    clear hR1 HY
    obtain ⟨e, he⟩ : ∃ e, e = topE y.st := ⟨_, rfl⟩
    rw [← he] at HTy ⊢
    clear he
    obtain ⟨el, eo, ei⟩ := e
    obtain ⟨⟨⟨u2, l2⟩, ⟨u3, l3⟩, ⟨u4, l4⟩, f2, f3, f4⟩, t0, t1, ⟨n1, n2, n3, n4, n5, n6⟩, n7, n8, n9, n10, n11, n12⟩ := HR1.out.ready HGs.out HL.out hk hlt (.int .i64 el) (.int .i64 eo) (.bool ei)
    go_wp2
    go_roundg (len - (k + 1))
    case measure => omega
    case rel => exact ⟨k + 1, by omega, rfl, by simp, HNy.out ▸ HR1.out.stored HGs.out HK.out ⟨el, eo, ei⟩ HTy.out.symm _ _ _ _ rfl (kind_out HX.out HLF.out) (left_at HX.out HLF.out)⟩
   by_cases hlo : c < 13
   ·have HLF : Hid (leftB c = true) := by show leftB c = true; rw [leftB, show (c != 9) = true by simpa using h9, decide_eq_true hlo]; rfl
    have q9 : (c == 9) = false := by simpa using h9
    have q9' : (c != 9) = true := by simpa using h9
    have q13 : (c == 13) = false := by simpa using h13
    have q14 : (c == 14) = false := by simpa using h14
    have q15 : (c == 15) = false := by simpa using h15
    have q16 : (c == 16) = false := by simpa using h16
    have q17 : (c == 17) = false := by simpa using h17
    have q18 : (c == 18) = false := by simpa using h18
    have q19 : (c == 19) = false := by simpa using h19
    have q20 : (c == 20) = false := by simpa using h20
    have q21 : (c == 21) = false := by simpa using h21
    have HY : Hid (XRk cs para w wr w.heap.size len x k) := HR.out
    have HOy : Hid (XOk k x) := HO.out
    have HTy : Hid (xTop cs para k = topE x.st) := by have := HTop.out; rw [xPre, if_neg (by omega)] at this; exact this
    have HNy : Hid (xAt cs para (k + 1) = x) := by
     have := HN.out
     rw [xPre, if_neg (by omega)] at this
     rw [this]
     show xPost cs k x _ = _
     rw [xPost, if_neg (by omega), if_neg (by omega), if_neg (by omega), if_neg (by omega), if_neg (by omega)]
    clear HR HO HTop HN
    generalize x = y at HY HOy HTy HNy
    go_wp2_with fail
    refine (top_xr HGs.out.s HY.out HOy.out).mono ?_
    rintro ev w1 ⟨rfl, hR1⟩
    have HR1 : Hid (XRk cs para w w1 w.heap.size len y k) := hR1
    clear hR1 HY
    obtain ⟨e, he⟩ : ∃ e, e = topE y.st := ⟨_, rfl⟩
    rw [← he] at HTy ⊢
    clear he
    obtain ⟨el, eo, ei⟩ := e
    obtain ⟨⟨⟨u2, l2⟩, ⟨u3, l3⟩, ⟨u4, l4⟩, f2, f3, f4⟩, t0, t1, ⟨n1, n2, n3, n4, n5, n6⟩, n7, n8, n9, n10, n11, n12⟩ := HR1.out.ready HGs.out HL.out hk hlt (.int .i64 el) (.int .i64 eo) (.bool ei)
    by_cases ho : 0 ≤ eo
    ·go_wp2
     go_roundg (len - (k + 1))
     case measure => omega
     case rel => exact ⟨k + 1, by omega, rfl, by simp, HNy.out ▸ HR1.out.stored2 HGs.out HK.out ⟨el, eo, ei⟩ HTy.out.symm _ _ _ _ _ rfl (kind_over ⟨el, eo, ei⟩ HX.out HLF.out ho) (left_at HX.out HLF.out)⟩
    ·go_wp2
     go_roundg (len - (k + 1))
     case measure => omega
     case rel => exact ⟨k + 1, by omega, rfl, by simp, HNy.out ▸ HR1.out.stored HGs.out HK.out ⟨el, eo, ei⟩ HTy.out.symm _ _ _ _ rfl (kind_plain ⟨el, eo, ei⟩ HX.out ho) (left_at HX.out HLF.out)⟩
   have hhi : 17 < c := by omega
   have HLF : Hid (leftB c = true) := by show leftB c = true; rw [leftB, show (c != 9) = true by simpa using h9, decide_eq_true hhi, Bool.or_true]; rfl
   have q9 : (c == 9) = false := by simpa using h9
   have q9' : (c != 9) = true := by simpa using h9
   have q13 : (c == 13) = false := by simpa using h13
   have q14 : (c == 14) = false := by simpa using h14
   have q15 : (c == 15) = false := by simpa using h15
   have q16 : (c == 16) = false := by simpa using h16
   have q17 : (c == 17) = false := by simpa using h17
   have q18 : (c == 18) = false := by simpa using h18
   have q19 : (c == 19) = false := by simpa using h19
   have q20 : (c == 20) = false := by simpa using h20
   have q21 : (c == 21) = false := by simpa using h21
   have HY : Hid (XRk cs para w wr w.heap.size len x k) := HR.out
   have HOy : Hid (XOk k x) := HO.out
   have HTy : Hid (xTop cs para k = topE x.st) := by have := HTop.out; rw [xPre, if_neg (by omega)] at this; exact this
   have HNy : Hid (xAt cs para (k + 1) = x) := by
    have := HN.out
    rw [xPre, if_neg (by omega)] at this
    rw [this]
    show xPost cs k x _ = _
    rw [xPost, if_neg (by omega), if_neg (by omega), if_neg (by omega), if_neg (by omega), if_neg (by omega)]
   clear HR HO HTop HN
   generalize x = y at HY HOy HTy HNy
   go_wp2_with fail
   refine (top_xr HGs.out.s HY.out HOy.out).mono ?_
   rintro ev w1 ⟨rfl, hR1⟩
   have HR1 : Hid (XRk cs para w w1 w.heap.size len y k) := hR1
   clear hR1 HY
   obtain ⟨e, he⟩ : ∃ e, e = topE y.st := ⟨_, rfl⟩
   rw [← he] at HTy ⊢
   clear he
   obtain ⟨el, eo, ei⟩ := e
   obtain ⟨⟨⟨u2, l2⟩, ⟨u3, l3⟩, ⟨u4, l4⟩, f2, f3, f4⟩, t0, t1, ⟨n1, n2, n3, n4, n5, n6⟩, n7, n8, n9, n10, n11, n12⟩ := HR1.out.ready HGs.out HL.out hk hlt (.int .i64 el) (.int .i64 eo) (.bool ei)
   by_cases ho : 0 ≤ eo
   ·go_wp2
    go_roundg (len - (k + 1))
    case measure => omega
    case rel => exact ⟨k + 1, by omega, rfl, by simp, HNy.out ▸ HR1.out.stored2 HGs.out HK.out ⟨el, eo, ei⟩ HTy.out.symm _ _ _ _ _ rfl (kind_over ⟨el, eo, ei⟩ HX.out HLF.out ho) (left_at HX.out HLF.out)⟩
   ·go_wp2
    go_roundg (len - (k + 1))
    case measure => omega
    case rel => exact ⟨k + 1, by omega, rfl, by simp, HNy.out ▸ HR1.out.stored HGs.out HK.out ⟨el, eo, ei⟩ HTy.out.symm _ _ _ _ rfl (kind_plain ⟨el, eo, ei⟩ HX.out ho) (left_at HX.out HLF.out)⟩
  ·have hkk : k = len := by omega
   subst hkk
   have h1 := HR.out.lv
   have h2 := HR.out.kd
   have h3 := HR.out.lf
   rw [upto_all _ _ _ (by simp [xLevels]; exact HL.out.symm)] at h1
   rw [upto_all _ _ _ (by simp [xKinds]; exact HL.out.symm)] at h2
   rw [upto_all _ _ _ (by simp [xLeft]; exact HL.out.symm)] at h3
   rw [← HGs.out.g2] at h1
   rw [← HGs.out.g3] at h2
   rw [← HGs.out.g4] at h3
   have H1 : Hid _ := h1
   have H2 : Hid _ := h2
   have H3 : Hid _ := h3
   clear h1 h2 h3
   go_wp2
   refine bodyPost_ret (v := .tuple #[.slice (some ⟨g2, 0, none⟩) k k, .slice (some ⟨g3, 0, none⟩) k k, .slice (some ⟨g4, 0, none⟩) k k]) (by simp [results, Tryz.results71, go_sem]) rfl ?_
   exact ⟨g2, g3, g4, rfl, HR.out.be, H1.out, H2.out, H3.out⟩
end Go.Proofs.YtkbinfhclaafhaaGreatDoor
namespace Go.Proofs.YtkbinfhclaafhaaGreatDoor
open Go.RowKit
theorem Tryz.infoSeq : (Tryz.prog.info? 120).map (fun i => (i.zero, i.size, i.bytes)) = some (some (.agg #[.slice none 0 0, .int .i64 0, .int .i64 0, .int .i64 0]), 4, 48) := by kernel_rfl
theorem own_ints2 {w : World} {B g n c : Nat} {l : List Int} (h : w.ownsRow B 3 1 (.slice (some ⟨g, 0, none⟩) n c) n (iv l)) : IntsAt w g 0 l := fun k hk => by
 rw [Nat.zero_add]; exact own_icell h k hk
theorem inc_len : ∀ (r : List Nat), r.Pairwise (· < ·) → r ≠ [] → r.length + r.headD 0 ≤ r.getLastD 0 + 1
 | [], _, h => absurd rfl h
 | [a], _, _ => by simp; omega
 | a :: b :: l, hp, _ => by
  have ih := inc_len (b :: l) (List.pairwise_cons.1 hp).2 (by simp)
  have hab := (List.pairwise_cons.1 hp).1 b (by simp)
  simp only [List.length_cons, List.headD_cons, List.getLastD_cons] at ih ⊢
  omega
theorem run_inc {lv : List Int} {lf : List Bool} {r : List Nat} (hr : r ∈ runsL lv lf) : r.length + r.headD 0 ≤ r.getLastD 0 + 1 := by
 refine inc_len r ?_ ((runsL_ok lv lf).2.1 r hr)
 have h1 : (runsL lv lf).flatten.Pairwise (· < ·) := by rw [(runsL_ok lv lf).1]; exact List.Pairwise.filter _ List.pairwise_lt_range
 exact h1.sublist (List.sublist_flatten_of_mem hr)
theorem runsOk_of (lv : List Int) (lf : List Bool) : RunsOk lv.length (runsL lv lf) := ⟨(runsL_ok lv lf).2.1, fun _ hr _ hp => (run_lt hr hp).1, runs_nodup lv lf⟩
def sqTo (cs lv : List Int) (lf : List Bool) (para : Int) (rs : List (List Nat)) (n k : Nat) : List Sq := ((rs.take k).filter (begsB cs)).map fun r => endedS cs lv lf para (chainF cs rs n r)
theorem sqTo_succ (cs lv : List Int) (lf : List Bool) (para : Int) (rs : List (List Nat)) (n k : Nat) (hk : k < rs.length) : sqTo cs lv lf para rs n (k + 1) = if begsB cs (rs.getD k []) = true then sqTo cs lv lf para rs n k ++ [endedS cs lv lf para (chainF cs rs n (rs.getD k []))] else sqTo cs lv lf para rs n k := by
 unfold sqTo
 have hg : rs.getD k [] = rs[k] := by simp [List.getD_eq_getElem?_getD, List.getElem?_eq_getElem hk]
 rw [List.take_succ_eq_append_getElem hk, List.filter_append, hg, List.filter_cons, List.filter_nil]
 cases begsB cs rs[k] <;> simp
theorem sqTo_length (cs lv : List Int) (lf : List Bool) (para : Int) (rs : List (List Nat)) (n k : Nat) : (sqTo cs lv lf para rs n k).length ≤ k := by
 unfold sqTo
 rw [List.length_map]
 have := List.length_filter_le (begsB cs) (rs.take k)
 rw [List.length_take] at this
 omega
def nxV : Option Nat → Int
 | none => -1
 | some j => (j : Int)
theorem nextK_succ (rs : List (List Nat)) (m k : Nat) : nextK rs m (k + 1) = if (rs.getD k []).headD 0 = m then some k else nextK rs m k := rfl
theorem last_app {a b : List Nat} (h : b ≠ []) : (a ++ b).getLastD 0 = b.getLastD 0 := by
 rw [List.getLastD_eq_getLast?, List.getLast?_append, List.getLast?_eq_some_getLast h, List.getLastD_eq_getLast?, List.getLast?_eq_some_getLast h]; rfl
theorem run_at {w : World} {B g' rc : Nat} {vs : List Value} {rs : List (List Nat)} {j : Nat} (h : w.ownsRow B 31 1 (.slice (some ⟨g', 0, none⟩) rs.length rc) rs.length vs) (ho : w.ownsRow B 3 1 (vs.getD j .nilFunc) (rs.getD j []).length (iv (nl (rs.getD j [])))) (hj : j < rs.length) (hne : rs.getD j [] ≠ []) :
  ∃ gj cj, w.cell? ⟨g', j, none⟩ = some (.slice (some ⟨gj, 0, none⟩) (rs.getD j []).length cj) ∧ w.cell? ⟨gj, 0, none⟩ = some (.int .i64 ((rs.getD j []).headD 0 : Nat)) ∧ 0 < (rs.getD j []).length ∧ w.ownsRow B 3 1 (.slice (some ⟨gj, 0, none⟩) (rs.getD j []).length cj) (rs.getD j []).length (iv (nl (rs.getD j []))) := by
 have hl := List.length_pos_iff.2 hne
 obtain ⟨gj, cj, hv, _, _, _⟩ := own_some ho hl
 rw [hv] at ho
 refine ⟨gj, cj, ?_, ?_, hl, ho⟩
 ·rw [World.ownsRow.cellAt h j (by have := h.1; omega), ← hv, List.getD_eq_getElem?_getD, List.getElem?_eq_getElem (show j < vs.length by have := h.1; omega)]; rfl
 ·have := own_icell ho 0 (by rw [nl_length]; exact hl)
  rw [nl_getD _ _ hl] at this
  rw [this]
  cases hh : rs.getD j [] with
  | nil => exact absurd hh hne
  | cons a l => rfl
set_option maxRecDepth 100000 in
set_option maxHeartbeats 8000000 in
theorem sequences_row (cs lv : List Int) (lf : List Bool) (para : Int) (n gc oc cc gl ol cl gf of' cf : Nat) (w : World) (hc : cs.length = n) (hl : lv.length = n) (hf : lf.length = n) (hn : n ≤ 100000) (hlv : ∀ l ∈ lv, 0 ≤ l ∧ l ≤ 1000) (hp : 0 ≤ para ∧ para ≤ 1000)
  (hci : IntsAt w gc oc cs) (hli : IntsAt w gl ol lv) (hfi : BoolsAt w gf of' lf) (hgc : gc < w.heap.size) (hgl : gl < w.heap.size) (hgf : gf < w.heap.size) :
  Calls Tryz.prog 72 #[.slice (some ⟨gc, oc, none⟩) n cc, .slice (some ⟨gl, ol, none⟩) n cl, .slice (some ⟨gf, of', none⟩) n cf, .int .i64 para] w fun ev w' => ∃ (v : Value) (avs : List Value), ev = .returned v ∧ Below w.heap.size w w' ∧ w'.ownsRow w.heap.size 120 4 v (seqsL cs lv lf para).length (sqV avs (seqsL cs lv lf para)) ∧ avs.length = (seqsL cs lv lf para).length ∧
   ∀ i, i < (seqsL cs lv lf para).length → w'.ownsRow w.heap.size 3 1 (avs.getD i .nilFunc) ((seqsL cs lv lf para).getD i ⟨[], 0, 0, 0⟩).at'.length (iv (nl ((seqsL cs lv lf para).getD i ⟨[], 0, 0, 0⟩).at')) := by
 obtain ⟨iI, hiI, hzI0, hzI1, hzI2⟩ := info_parts Tryz.infoI8
 obtain ⟨iQ, hiQ, hzQ0, hzQ1, hzQ2⟩ := info_parts Tryz.infoSeq
 have HRun : Hid (Calls Tryz.prog 121 #[.slice (some ⟨gl, ol, none⟩) n cl, .slice (some ⟨gf, of', none⟩) n cf] w fun ev w' => ∃ (v : Value) (vs : List Value), ev = .returned v ∧ Below w.heap.size w w' ∧ w'.ownsRow w.heap.size 31 1 v (runsL lv lf).length vs ∧ ∀ i, i < (runsL lv lf).length → w'.ownsRow w.heap.size 3 1 (vs.getD i .nilFunc) ((runsL lv lf).getD i []).length (iv (nl ((runsL lv lf).getD i [])))) := runs_row lv lf n gl ol cl gf of' cf w hl hf hn hli hfi hgl hgf
 have HSq : Hid (seqsL cs lv lf para = sqTo cs lv lf para (runsL lv lf) n (runsL lv lf).length) := by
  show _ = _
  unfold seqsL sqTo
  rw [List.take_length, hc]
 have HRok : Hid (RunsOk n (runsL lv lf)) := by have := runsOk_of lv lf; rw [hl] at this; exact this
 have HInc : Hid (∀ r ∈ runsL lv lf, r.length + r.headD 0 ≤ r.getLastD 0 + 1) := fun r hr => run_inc hr
 have HRl : Hid ((runsL lv lf).length ≤ n) := by
  have h1 := congrArg List.length (runsL_ok lv lf).1
  have h2 := List.length_filter_le (isL lf) (List.range lv.length)
  rw [List.length_range] at h2
  have h3 : ∀ l : List (List Nat), (∀ r ∈ l, r ≠ []) → l.length ≤ l.flatten.length := by
   intro l
   induction l with
   | nil => intro _; simp
   | cons a l ih =>
    intro hl'
    have := ih (fun r hr => hl' r (by simp [hr]))
    have := List.length_pos_iff.2 (hl' a (by simp))
    simp only [List.length_cons, List.flatten_cons, List.length_append]
    omega
  have h4 := h3 _ (runsL_ok lv lf).2.1
  show _ ≤ _
  omega
 have HLn : Hid (cs.length = n ∧ lv.length = n ∧ lf.length = n) := ⟨hc, hl, hf⟩
 have HLv : Hid (∀ l ∈ lv, 0 ≤ l ∧ l ≤ 1000) := hlv
 have HP : Hid (0 ≤ para ∧ para ≤ 1000) := hp
 have HCI : Hid (IntsAt w gc oc cs) := hci
 have HLI : Hid (IntsAt w gl ol lv) := hli
 have HFI : Hid (BoolsAt w gf of' lf) := hfi
 have HGs : Hid (gc < w.heap.size ∧ gl < w.heap.size ∧ gf < w.heap.size) := ⟨hgc, hgl, hgf⟩
 rw [HSq.out]
 generalize runsL lv lf = rs at *
 clear hc hl hf hlv hp hci hli hfi hgc hgl hgf
 go_enter Tryz.func72, Tryz.ntmps72
 go_wp2_with fail
 refine HRun.out.mono ?_
 rintro ev w1 ⟨rsv, vs, rfl, hb1, hrs, hold⟩
 obtain ⟨ra, rc, rfl⟩ := own_form hrs
 obtain ⟨rsv, hrsv⟩ : ∃ rsv : Value, rsv = .slice ra rs.length rc := ⟨_, rfl⟩
 have HQ0 : Hid (QSt w w1 w.heap.size (.slice ra rs.length rc) (.slice none 0 0) (.slice none 0 0) vs [] rs [] []) :=
  ⟨hb1, hb1.size, hrs, hold, ⟨rfl, .inl ⟨rfl, rfl⟩⟩, rfl, fun i h => by simp at h, ⟨rfl, .inl ⟨rfl, rfl⟩⟩, fun _ _ k _ hk => (by cases hk), fun _ _ k _ hk => (by cases hk)⟩
 have HRSV : Hid (rsv = .slice ra rs.length rc) := hrsv
 clear hb1 hrs hold HRun hrsv
 go_wp2
 go_loopg [10, 11] rs.length (fun gh ov iv' W => ∃ (k : Nat) (avs : List Value) (ss : List Sq), k ≤ rs.length ∧ gh = rs.length - k ∧ iv' = .int .i64 k ∧ QSt w W w.heap.size rsv ov (.slice none 0 0) vs avs rs ss [] ∧ ss = sqTo cs lv lf para rs n k)
 case atStart => exact ⟨0, [], [], by omega, rfl, rfl, by rw [HRSV.out]; exact HQ0.out, rfl⟩
 case round =>
  clear HQ0
  obtain ⟨k, avs, ss, hk, rfl, rfl, hQ, hSS⟩ := hrel
  obtain ⟨oa', oc', rfl⟩ := own_form hQ.out
  by_cases hlt : k < rs.length
  ·have HKR : Hid (k < rs.length) := hlt
   have HSS : Hid (ss = sqTo cs lv lf para rs n k) := hSS
   have HSL : Hid (ss.length ≤ n) := by
    have := sqTo_length cs lv lf para rs n k
    have h2 := HRl.out
    show _ ≤ _
    rw [hSS]; omega
   have hrm : rs.getD k [] ∈ rs := getD_mem hlt
   have hrne := HRok.out.ne _ hrm
   have hrlt := HRok.out.lt _ hrm
   have hrin := HInc.out _ hrm
   obtain ⟨g, cg, hvk, hcg, hgw, _⟩ := own_some (hQ.old k hlt) (List.length_pos_iff.2 hrne)
   have hold := hQ.old k hlt
   rw [hvk] at hold
   obtain ⟨g', cg', hv', hcap', hgw', _⟩ := own_some hQ.rsr (by omega)
   have hrsr := hQ.rsr
   rw [hv'] at hrsr
   have cR : wr.cell? ⟨g', k, none⟩ = some (.slice (some ⟨g, 0, none⟩) (rs.getD k []).length cg) := by
    rw [World.ownsRow.cellAt hrsr k (by have := hrsr.1; omega), ← hvk, List.getD_eq_getElem?_getD, List.getElem?_eq_getElem (show k < vs.length by have := hrsr.1; omega)]; rfl
   have cF : wr.cell? ⟨g, 0, none⟩ = some (.int .i64 ((rs.getD k []).headD 0 : Nat)) := by
    have := own_icell hold 0 (by rw [nl_length]; exact List.length_pos_iff.2 hrne)
    rw [nl_getD _ _ (List.length_pos_iff.2 hrne)] at this
    rw [this]
    cases hh : rs.getD k [] with
    | nil => exact absurd hh hrne
    | cons a l => rfl
   have hFn : (rs.getD k []).headD 0 < n := hrlt _ (head_mem hrne)
   have cC := (HCI.out.stay hQ.below HGs.out.1) ((rs.getD k []).headD 0) (by rw [HLn.out.1]; exact hFn)
   have HQ : Hid (QSt w wr w.heap.size rsv (.slice oa' ss.length oc') (.slice none 0 0) vs avs rs ss []) := hQ
   have HOp : Hid (Calls Tryz.prog 122 #[.slice (some ⟨gc, oc, none⟩) n cc, .int .i64 ((rs.getD k []).headD 0 : Nat)] wr fun e w' => e = .returned (.int .i64 (opener cs ((rs.getD k []).headD 0))) ∧ w' = wr) := opener_row cs _ gc oc cc n wr HLn.out.1 (by omega) (by omega) (HCI.out.stay hQ.below HGs.out.1)
   have hbg : begsB cs (rs.getD k []) = !(cs.getD ((rs.getD k []).headD 0) 0 == 21 && decide (0 ≤ opener cs ((rs.getD k []).headD 0))) := rfl
   have HR : Hid (∃ r, r = rs.getD k []) := ⟨_, rfl⟩
   obtain ⟨r, hr⟩ := HR.out
   rw [← hr] at cR cF cC hFn hrne hrlt hrin hold hbg HOp
   have HRm : Hid (r ∈ rs) := by rw [hr]; exact hrm
   have HR : Hid (rs.getD k [] = r) := hr.symm
   have HOld : Hid (wr.ownsRow w.heap.size 3 1 (.slice (some ⟨g, 0, none⟩) r.length cg) r.length (iv (nl r))) := hold
   have hkb : k < rs.length := hlt
   have hrl := HRl.out
   rw [HRSV.out] at hv'
   obtain ⟨hv1, hv2⟩ : ra = some ⟨g', 0, none⟩ ∧ rc = cg' := by simpa using hv'
   subst hv1
   subst hv2
   have hrll : r.length ≤ n := by have := hrlt _ (last_mem hrne); omega
   have HRn : Hid (r ≠ [] ∧ (∀ p ∈ r, p < n) ∧ r.length + r.headD 0 ≤ r.getLastD 0 + 1) := ⟨hrne, hrlt, hrin⟩
   have hr0 : 0 < r.length := List.length_pos_iff.2 hrne
   have hr0i : ((0 : Int) < (r.length : Int)) := by omega
   clear hQ hrsr hvk hold hrm hrne hrlt hrin hr hv' hSS hcg hcap'
   generalize hfi' : r.headD 0 = fi at *
   generalize cs.getD fi 0 = c0 at *
   generalize opener cs fi = op at *
   cases hbb : begsB cs r
   ·have HNs : Hid (sqTo cs lv lf para rs n (k + 1) = ss) := by
     show _ = _
     rw [sqTo_succ _ _ _ _ _ _ _ HKR.out, HR.out, hbb, if_neg (by decide), HSS.out]
    rw [hbb] at hbg
    obtain ⟨h1, h2⟩ : c0 = 21 ∧ 0 ≤ op := by simpa using hbg.symm
    subst h1
    clear hbg hbb
    go_wp2_with fail
    refine HOp.out.mono ?_
    rintro ev wx ⟨rfl, hx⟩
    have hx' := hx.symm
    subst hx'
    go_wp2
    go_roundg (rs.length - (k + 1))
    case measure => omega
    case rel => exact ⟨k + 1, avs, ss, by omega, rfl, by simp, HQ.out, HNs.out.symm⟩
   ·have HBeg : Hid (begsB cs (rs.getD k []) = true) := by rw [HR.out]; exact hbb
    rw [hbb] at hbg
    have hor : ¬ (c0 = 21 ∧ 0 ≤ op) := by
     intro h
     rw [h.1, decide_eq_true h.2] at hbg
     cases hbg
    clear hbg hbb
    go_upto_if 40 with fail
    go_cut [] (fun wc => wc = wr)
    case first =>
     by_cases h21 : c0 = 21
     ·subst h21
      have hop : op < 0 := by omega
      go_wp2_with fail
      refine HOp.out.mono ?_
      rintro ev wx ⟨rfl, hx⟩
      have hx' := hx.symm
      subst hx'
      go_wp2_with fail
      go_meet
      case rel => rfl
     ·have q21 : (c0 == 21) = false := by simpa using h21
      go_wp2_with fail
      go_meet
      case rel => rfl
    case rest =>
     have hx' := hcut.symm
     subst hx'
     clear hor HOp cC
     have hbz := HQ.out.base
     have hcur := HQ.out.cur'
     go_wp2_with (at_builtin; refine wpList_appA _ rfl _ _ 31 rfl w.heap.size 3 iI (.int .i64 0) 8 Tryz.underlying31 hiI hzI0 hzI1 hzI2 rfl (by decide) _ _ _ rfl hcur g r.length cg (iv (nl r)) rfl (by rw [iv_length, nl_length]) (fun j u hj => by rw [World.ownsRow.cellAt HOld.out j (by have h1 := List.getElem?_eq_some_iff.1 hj; obtain ⟨h1, _⟩ := h1; rw [iv_length, nl_length] at h1; omega)]; exact hj) (fun u hu => by simp only [iv, List.mem_map] at hu; obtain ⟨q, _, rfl⟩ := hu; rfl) (by simp) (by omega) hbz ?_)
     intro v3 w3 hown3 hg3 hv3
     have HQ3 : Hid (QSt w w3 w.heap.size rsv (.slice oa' ss.length oc') v3 vs avs rs ss r) := by
      have := HQ.out.app (r := r) (by simpa using hown3) hg3 hv3
      exact this
     clear hown3 hg3 hv3 hcur hbz HQ cR cF HOld
     go_wp2
     go_loopg [14] n (fun gh cv W => ∃ (f : Nat) (cur : List Nat), f = gh ∧ QSt w W w.heap.size rsv (.slice oa' ss.length oc') cv vs avs rs ss cur ∧ (cur ≠ [] ∧ (∀ p ∈ cur, p < n) ∧ cur.length ≤ cur.getLastD 0 + 1) ∧ n ≤ f + cur.getLastD 0 ∧ chainF cs rs n r = chainF cs rs f cur)
     case atStart => exact ⟨n, r, rfl, HQ3.out, ⟨HRn.out.1, HRn.out.2.1, by have := HRn.out.2.2; omega⟩, by omega, rfl⟩
     case round =>
      clear HQ3
      obtain ⟨f, cur, hf, hQ1, hcur, hfu, hch⟩ := hrel
      subst hf
      have HCF : Hid (chainF cs rs n r = chainF cs rs f cur) := hch
      have HCur : Hid (cur ≠ [] ∧ (∀ p ∈ cur, p < n) ∧ cur.length ≤ n) := ⟨hcur.1, hcur.2.1, by have := hcur.2.1 _ (last_mem hcur.1); have := hcur.2.2; omega⟩
      have hlan : cur.getLastD 0 < n := hcur.2.1 _ (last_mem hcur.1)
      have HLast : Hid (cur.length ≤ cur.getLastD 0 + 1) := hcur.2.2
      obtain ⟨L, hL⟩ : ∃ L, cur.length = L + 1 := ⟨cur.length - 1, by have := List.length_pos_iff.2 hcur.1; omega⟩
      obtain ⟨gx, cx, hcv, hcxc, hgxw, _⟩ := own_some hQ1.cur' (by omega)
      subst hcv
      have HQ1 : Hid (QSt w wr w.heap.size rsv (.slice oa' ss.length oc') (.slice (some ⟨gx, 0, none⟩) cur.length cx) vs avs rs ss cur) := hQ1
      have cX : wr.cell? ⟨gx, L, none⟩ = some (.int .i64 (cur.getLastD 0 : Nat)) := by
       rw [own_icell hQ1.cur' L (by rw [nl_length]; omega), nl_getD _ _ (by omega), List.getLastD_eq_getLast?, List.getLast?_eq_getElem?, hL, Nat.add_sub_cancel, List.getD_eq_getElem?_getD]
      have cY := (HCI.out.stay hQ1.below HGs.out.1) (cur.getLastD 0) (by rw [HLn.out.1]; exact hlan)
      have HMt : Hid (Calls Tryz.prog 115 #[.slice (some ⟨gc, oc, none⟩) n cc, .int .i64 (cur.getLastD 0 : Nat)] wr fun e w2 => e = .returned (.int .i64 (mt cs (cur.getLastD 0))) ∧ w2 = wr) := matching_row cs _ gc oc cc n wr HLn.out.1 (by omega) (by omega) (HCI.out.stay hQ1.below HGs.out.1)
      have hnr : nextRun cs rs (cur.getLastD 0) = if isoB (cs.getD (cur.getLastD 0) 0) = true then nextK rs (mt cs (cur.getLastD 0)) rs.length else none := rfl
      have hmg : isoB (cs.getD (cur.getLastD 0) 0) = true → cur.getLastD 0 < mt cs (cur.getLastD 0) := fun h => mt_gt cs _ (by rw [HLn.out.1]; exact hlan) h
      have hmle : mt cs (cur.getLastD 0) ≤ n := by have := (mt_le cs (cur.getLastD 0) (by rw [HLn.out.1]; omega)).2; rw [HLn.out.1] at this; exact this
      have HRw : Hid (∀ j, j < rs.length → ∃ gj cj, wr.cell? ⟨g', j, none⟩ = some (.slice (some ⟨gj, 0, none⟩) (rs.getD j []).length cj) ∧ wr.cell? ⟨gj, 0, none⟩ = some (.int .i64 ((rs.getD j []).headD 0 : Nat)) ∧ 0 < (rs.getD j []).length ∧ wr.ownsRow w.heap.size 3 1 (.slice (some ⟨gj, 0, none⟩) (rs.getD j []).length cj) (rs.getD j []).length (iv (nl (rs.getD j [])))) := fun j hj => by
       have := hQ1.rsr
       rw [HRSV.out] at this
       exact run_at this (hQ1.old j hj) hj (HRok.out.ne _ (getD_mem hj))
      have hLb : L ≤ 100000 := by have := HCur.out.2.2; omega
      have hrsb : rs.length ≤ 100000 := by omega
      rw [hL]
      have HLL : Hid (cur.length = L + 1) := hL
      rw [hL] at HQ1
      clear hQ1 hcur hch hL
      generalize hla : cur.getLastD 0 = la at *
      generalize cs.getD la 0 = cY' at *
      generalize mt cs la = z at *
      go_wp2_with fail
      refine (isolate_any cY' _).mono ?_
      rintro ev wx ⟨rfl, hx⟩
      have hx' := hx.symm
      subst hx'
      go_wp2_with fail
      refine HMt.out.mono ?_
      rintro ev wx ⟨rfl, hx⟩
      have hx' := hx.symm
      subst hx'
      clear HMt
      cases hiso : isoB cY'
      ·have HNone : Hid (nextRun cs rs (cur.getLastD 0) = none) := by show _ = _; rw [hla, hnr, hiso, if_neg (by decide)]
       clear hnr hmg hiso
       go_wp2
       go_loopg [18, 19] 0 (fun gh nv kv W => gh = 0 ∧ nv = .int .i64 (-1) ∧ kv = .int .i64 0 ∧ W = wr)
       case atStart => exact ⟨rfl, rfl, rfl, rfl⟩
       case round =>
        obtain ⟨rfl, rfl, rfl, hW⟩ := hrel
        have hx' := hW.symm
        subst hx'
        have HCh : Hid (chainF cs rs n r = cur) := by
         show _ = _
         rw [HCF.out]
         obtain ⟨f', hf'⟩ : ∃ f', f = f' + 1 := ⟨f - 1, by omega⟩
         rw [hf', chainF, HNone.out]
        have HEQ : Hid (sqTo cs lv lf para rs n (k + 1) = ss ++ [endedS cs lv lf para cur]) := by
         show _ = _
         rw [sqTo_succ _ _ _ _ _ _ _ HKR.out, if_pos HBeg.out, HR.out, HCh.out, ← HSS.out]
        go_wp2_with fail
        refine (ended_row cs lv lf para cur n (L + 1) gc oc cc gl ol cl gf of' cf gx 0 cx wr HLn.out.1 HLn.out.2.1 HLn.out.2.2 hn HLL.out (by omega) (by have := HCur.out.2.2; have := HLL.out; omega) HCur.out.2.1 HLv.out HP.out (HCI.out.stay HQ1.out.below HGs.out.1) (HLI.out.stay HQ1.out.below HGs.out.2.1) (HFI.out.stay HQ1.out.below HGs.out.2.2) (by have := HQ1.out.cur'; rw [HLL.out] at this; exact own_ints2 this) (Nat.lt_of_lt_of_le HGs.out.1 HQ1.out.base) (Nat.lt_of_lt_of_le HGs.out.2.1 HQ1.out.base) (Nat.lt_of_lt_of_le HGs.out.2.2 HQ1.out.base) hgxw).mono ?_
        rintro ev w4 ⟨rfl, hb4⟩
        have hQ4 := HQ1.out.call hb4
        have HSA : Hid ((endedS cs lv lf para cur).at' = cur) := rfl
        generalize endedS cs lv lf para cur = sq at *
        obtain ⟨sat, slev, ssos, seos⟩ := sq
        have HQ4 : Hid (QSt w (w4.alloc (.cells #[.slice (some ⟨gx, 0, none⟩) (L + 1) cx, .int .i64 slev, .int .i64 ssos, .int .i64 seos] 120)) w.heap.size rsv (.slice oa' ss.length oc') (.slice (some ⟨gx, 0, none⟩) (L + 1) cx) vs avs rs ss cur) := hQ4.call ((Below.refl _ _).alloc (Nat.le_refl _) _)
        have hrowO := HQ4.out.out
        have hbzO := HQ4.out.base
        have hssl : ss.length ≤ 100000 := by have := HSL.out; omega
        clear hb4 hQ4
        simp only
        go_wp2_with (at_builtin; refine wpList_pushQ _ rfl _ _ 117 rfl w.heap.size 120 iQ (.agg #[.slice none 0 0, .int .i64 0, .int .i64 0, .int .i64 0]) 48 Tryz.underlying117 hiQ hzQ0 hzQ1 hzQ2 rfl (by decide) _ _ _ rfl hrowO _ _ _ _ _ _ rfl (by simp) rfl rfl rfl rfl (by omega) hbzO ?_)
        intro v5 w5 hown5 hg5
        have HQ5 : Hid (QSt w w5 w.heap.size rsv v5 (.slice none 0 0) vs (avs ++ [.slice (some ⟨gx, 0, none⟩) (L + 1) cx]) rs (ss ++ [⟨sat, slev, ssos, seos⟩]) []) := HQ4.out.push HSA.out hown5 hg5
        clear hown5 hg5 hrowO
        go_wp2
        go_roundg (rs.length - (k + 1))
        case measure => omega
        case rel => exact ⟨k + 1, _, _, by omega, rfl, by simp, HQ5.out, HEQ.out.symm⟩
      ·have hmz := hmg hiso
       rw [hiso, if_pos rfl] at hnr
       have HNR : Hid (nextRun cs rs (cur.getLastD 0) = nextK rs z rs.length) := by show _ = _; rw [hla]; exact hnr
       have HFu : Hid (n ≤ f + la ∧ cur.getLastD 0 = la ∧ la < z) := ⟨hfu, hla, hmz⟩
       clear hnr hmg hiso
       go_wp2
       go_loopg [18, 19] rs.length (fun gh nv kv W => ∃ j : Nat, j ≤ rs.length ∧ gh = rs.length - j ∧ nv = .int .i64 (nxV (nextK rs z j)) ∧ kv = .int .i64 j ∧ W = wr)
       case atStart => exact ⟨0, by omega, rfl, rfl, rfl, rfl⟩
       case round =>
        obtain ⟨j, hj, rfl, rfl, rfl, hW⟩ := hrel
        have hx' := hW.symm
        subst hx'
        by_cases hjlt : j < rs.length
        ·obtain ⟨gj, cj, d0, d1, hl0, _⟩ := HRw.out j hjlt
         have hl0i : ((0 : Int) < ((rs.getD j []).length : Int)) := by omega
         have hns := nextK_succ rs z j
         generalize (rs.getD j []).headD 0 = hd at *
         generalize (rs.getD j []).length = lj at *
         by_cases hdz : hd = z
         ·rw [if_pos hdz] at hns
          have HS : Hid (nextK rs z (j + 1) = some j) := hns
          have qdz : ((hd : Int) == (z : Int)) = true := by simp [hdz]
          clear hns hdz
          go_wp2
          go_roundg (rs.length - (j + 1))
          case measure => omega
          case rel => exact ⟨j + 1, by omega, rfl, by rw [HS.out]; rfl, by simp, rfl⟩
         ·rw [if_neg hdz] at hns
          have HS : Hid (nextK rs z (j + 1) = nextK rs z j) := hns
          have qdz : ((hd : Int) == (z : Int)) = false := by simp; omega
          clear hns hdz
          go_wp2
          go_roundg (rs.length - (j + 1))
          case measure => omega
          case rel => exact ⟨j + 1, by omega, rfl, by rw [HS.out], by simp, rfl⟩
        ·obtain rfl : j = rs.length := by omega
         clear hjlt
         cases hnk : nextK rs z rs.length with
         | none =>
          have HNone : Hid (nextRun cs rs (cur.getLastD 0) = none) := by show _ = _; rw [HNR.out, hnk]
          clear hnk
          rw [show nxV none = -1 from rfl]
          have HCh : Hid (chainF cs rs n r = cur) := by
           show _ = _
           rw [HCF.out]
           obtain ⟨f', hf'⟩ : ∃ f', f = f' + 1 := ⟨f - 1, by omega⟩
           rw [hf', chainF, HNone.out]
          have HEQ : Hid (sqTo cs lv lf para rs n (k + 1) = ss ++ [endedS cs lv lf para cur]) := by
           show _ = _
           rw [sqTo_succ _ _ _ _ _ _ _ HKR.out, if_pos HBeg.out, HR.out, HCh.out, ← HSS.out]
          go_wp2_with fail
          refine (ended_row cs lv lf para cur n (L + 1) gc oc cc gl ol cl gf of' cf gx 0 cx wr HLn.out.1 HLn.out.2.1 HLn.out.2.2 hn HLL.out (by omega) (by have := HCur.out.2.2; have := HLL.out; omega) HCur.out.2.1 HLv.out HP.out (HCI.out.stay HQ1.out.below HGs.out.1) (HLI.out.stay HQ1.out.below HGs.out.2.1) (HFI.out.stay HQ1.out.below HGs.out.2.2) (by have := HQ1.out.cur'; rw [HLL.out] at this; exact own_ints2 this) (Nat.lt_of_lt_of_le HGs.out.1 HQ1.out.base) (Nat.lt_of_lt_of_le HGs.out.2.1 HQ1.out.base) (Nat.lt_of_lt_of_le HGs.out.2.2 HQ1.out.base) hgxw).mono ?_
          rintro ev w4 ⟨rfl, hb4⟩
          have hQ4 := HQ1.out.call hb4
          have HSA : Hid ((endedS cs lv lf para cur).at' = cur) := rfl
          generalize endedS cs lv lf para cur = sq at *
          obtain ⟨sat, slev, ssos, seos⟩ := sq
          have HQ4 : Hid (QSt w (w4.alloc (.cells #[.slice (some ⟨gx, 0, none⟩) (L + 1) cx, .int .i64 slev, .int .i64 ssos, .int .i64 seos] 120)) w.heap.size rsv (.slice oa' ss.length oc') (.slice (some ⟨gx, 0, none⟩) (L + 1) cx) vs avs rs ss cur) := hQ4.call ((Below.refl _ _).alloc (Nat.le_refl _) _)
          have hrowO := HQ4.out.out
          have hbzO := HQ4.out.base
          have hssl : ss.length ≤ 100000 := by have := HSL.out; omega
          clear hb4 hQ4
          simp only
          go_wp2_with (at_builtin; refine wpList_pushQ _ rfl _ _ 117 rfl w.heap.size 120 iQ (.agg #[.slice none 0 0, .int .i64 0, .int .i64 0, .int .i64 0]) 48 Tryz.underlying117 hiQ hzQ0 hzQ1 hzQ2 rfl (by decide) _ _ _ rfl hrowO _ _ _ _ _ _ rfl (by simp) rfl rfl rfl rfl (by omega) hbzO ?_)
          intro v5 w5 hown5 hg5
          have HQ5 : Hid (QSt w w5 w.heap.size rsv v5 (.slice none 0 0) vs (avs ++ [.slice (some ⟨gx, 0, none⟩) (L + 1) cx]) rs (ss ++ [⟨sat, slev, ssos, seos⟩]) []) := HQ4.out.push HSA.out hown5 hg5
          clear hown5 hg5 hrowO
          go_wp2
          go_roundg (rs.length - (k + 1))
          case measure => omega
          case rel => exact ⟨k + 1, _, _, by omega, rfl, by simp, HQ5.out, HEQ.out.symm⟩
         | some j2 =>
          obtain ⟨hj2, hd2⟩ := nextK_some _ _ hnk
          obtain ⟨gj, cj, d0, d1, hl0, hrow2⟩ := HRw.out j2 hj2
          have hm2 : rs.getD j2 [] ∈ rs := getD_mem hj2
          have hne2 := HRok.out.ne _ hm2
          have hlt2 := HRok.out.lt _ hm2
          have hin2 := HInc.out _ hm2
          have hla2 := hlt2 _ (last_mem hne2)
          obtain ⟨f', hf'⟩ : ∃ f', f = f' + 1 := ⟨f - 1, by omega⟩
          have HCF2 : Hid (chainF cs rs n r = chainF cs rs f' (cur ++ rs.getD j2 [])) := by
           show _ = _
           rw [HCF.out, hf', chainF, HNR.out, hnk]
          have HF2 : Hid (f = f' + 1) := hf'
          rw [show nxV (some j2) = (j2 : Int) from rfl]
          generalize rs.getD j2 [] = r2 at *
          have HOld2 : Hid (wr.ownsRow w.heap.size 3 1 (.slice (some ⟨gj, 0, none⟩) r2.length cj) r2.length (iv (nl r2))) := hrow2
          have HR2 : Hid (r2 ≠ [] ∧ (∀ p ∈ r2, p < n) ∧ r2.length + r2.headD 0 ≤ r2.getLastD 0 + 1 ∧ r2.headD 0 = z) := ⟨hne2, hlt2, hin2, hd2⟩
          have hcur := HQ1.out.cur'
          have hbz := HQ1.out.base
          have hcl : cur.length ≤ 1000000 := by have := HCur.out.2.2; omega
          have hrl2 : r2.length ≤ 1000000 := by omega
          have hj2i : ((0 : Int) ≤ (j2 : Int)) := by omega
          clear hnk hrow2 hm2 hne2 hlt2 hin2 hla2 hd2 hf' d1
          go_wp2_with (at_builtin; refine wpList_appA _ rfl _ _ 31 rfl w.heap.size 3 iI (.int .i64 0) 8 Tryz.underlying31 hiI hzI0 hzI1 hzI2 rfl (by decide) _ _ _ rfl hcur gj r2.length cj (iv (nl r2)) rfl (by rw [iv_length, nl_length]) (fun j u hj => by rw [World.ownsRow.cellAt HOld2.out j (by have h1 := List.getElem?_eq_some_iff.1 hj; obtain ⟨h1, _⟩ := h1; rw [iv_length, nl_length] at h1; omega)]; exact hj) (fun u hu => by simp only [iv, List.mem_map] at hu; obtain ⟨q, _, rfl⟩ := hu; rfl) hcl hrl2 hbz ?_)
          intro v6 w6 hown6 hg6 hv6
          have HQ6 : Hid (QSt w w6 w.heap.size rsv (.slice oa' ss.length oc') v6 vs avs rs ss (cur ++ r2)) := HQ1.out.app hown6 hg6 hv6
          clear hown6 hg6 hv6 hcur
          go_wp2
          go_roundg f'
          case measure => have := HF2.out; omega
          case rel =>
           obtain ⟨e1, e2, e3, e4⟩ := HR2.out
           obtain ⟨e5, e6, e7⟩ := HFu.out
           have e8 := HF2.out
           have e9 := HLast.out
           have e10 := List.length_pos_iff.2 e1
           refine ⟨f', cur ++ r2, rfl, HQ6.out, ⟨by simp [e1], ?_, ?_⟩, ?_, HCF2.out⟩
           ·intro p hp
            rcases List.mem_append.1 hp with hp | hp
            ·exact HCur.out.2.1 p hp
            ·exact e2 p hp
           ·rw [last_app e1, List.length_append]; omega
           ·rw [last_app e1]; omega
  ·obtain rfl : k = rs.length := by omega
   have HQ : Hid (QSt w wr w.heap.size rsv (.slice oa' ss.length oc') (.slice none 0 0) vs avs rs ss []) := hQ
   have HSS : Hid (ss = sqTo cs lv lf para rs n rs.length) := hSS
   clear hQ hSS hlt
   go_wp2
   refine bodyPost_ret (v := .slice oa' ss.length oc') (by simp [results, Tryz.results72, go_sem]) rfl ⟨_, avs, rfl, HQ.out.below, ?_, ?_, ?_⟩
   ·rw [← HSS.out]; exact HQ.out.out
   ·rw [← HSS.out]; exact HQ.out.alen
   ·rw [← HSS.out]; exact HQ.out.done
end Go.Proofs.YtkbinfhclaafhaaGreatDoor
