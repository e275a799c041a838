import Derived.Test.YtkbinfhclaafhaaGreatDoorM12
import Derived.Test.YtkbinfhclaafhaaGreatDoorM10
import Derived.Deep.RegionLaw
import Derived.BigQuiet
import Derived.Laws.CopyOwn
namespace Go.Proofs.YtkbinfhclaafhaaGreatDoor
open Go.RowKit
def rv32 (l : List Int) : List Value := l.map (.int .i32 ·)
theorem Tryz.infoI32 : (Tryz.prog.info? 21).map (fun i => (i.zero, i.size, i.bytes)) = some (some (.int .i32 0), 1, 4) := by kernel_rfl
theorem Tryz.infoCls : (Tryz.prog.info? 108).map (fun i => (i.zero, i.size, i.bytes)) = some (some (.int .i64 0), 1, 8) := by kernel_rfl
theorem own_ne_cells {w : World} {B : Nat} {e e' : TypeId} {z n b : Nat} {v : Value} {xs : List Value} {cs : Array Value} (h : w.ownsRow B e z v n xs) (hb : w.heap[b]? = some (.cells cs e' (0, 0))) (he : e ≠ e') : v.ownBlock ≠ some b := by
 rcases h.2 with ⟨rfl, _⟩ | ⟨g, cp, cur, rfl, _, hh, _⟩
 ·simp [Value.ownBlock]
 ·simp only [Value.ownBlock]
  intro e1
  obtain rfl := Option.some.inj e1
  rw [hb] at hh
  simp at hh
  exact he hh.2.symm
structure NL (W : World) (B lb it : Nat) (s : ByteArray) (p : Nat) (vr vt : Value) (qr qt : List Int) : Prop where
 cell : W.heap[lb]? = some (.cells #[vr, vt, .slice none 0 0, .slice none 0 0, .slice none 0 0, .int .i64 0] 141 (0, 0))
 rr : W.ownsRow B 21 1 vr qr.length (rv32 qr)
 rt : W.ownsRow B 108 1 vt qt.length (iv (qt.map cls))
 iter : W.heap[it]? = some (.stringIter s p)
 low : B ≤ lb
section
variable {W W' : World} {B lb it p : Nat} {s : ByteArray} {vr vt v' : Value} {qr qt : List Int}
theorem NL.ne (h : NL W B lb it s p vr vt qr qt) : lb ≠ it := by
 intro e
 have := h.cell
 rw [e, h.iter] at this
 cases this
theorem NL.below (h : NL W B lb it s p vr vt qr qt) (hb : Below W.heap.size W W') : NL W' B lb it s p vr vt qr qt := ⟨heap_keep hb h.cell, own_below h.rr hb, own_below h.rt hb, heap_keep hb h.iter, h.low⟩
theorem NL.next (h : NL W B lb it s p vr vt qr qt) (p' : Nat) : NL (W.iterAt it s p') B lb it s p' vr vt qr qt :=
 ⟨by rw [Lib.iterAt_other _ _ _ _ _ h.ne]; exact h.cell,
  ownsRow_blocks h.rr fun k o hk ho => by rw [Lib.iterAt_other]; exact ho; rintro rfl; exact own_ne_iter h.rr h.iter hk,
  ownsRow_blocks h.rt fun k o hk ho => by rw [Lib.iterAt_other]; exact ho; rintro rfl; exact own_ne_iter h.rt h.iter hk,
  Lib.iterAt_heap W _ s p _ h.iter, h.low⟩
theorem NL.pushR {y : Int} (h : NL W B lb it s p vr vt qr qt) (hown : W'.ownsRow B 21 1 v' (qr.length + 1) (rv32 qr ++ [.int .i32 y])) (hg : W.grownBy W' vr.ownBlock) :
  NL (W'.setCell ⟨lb, 0, none⟩ v') B lb it s p v' vt (qr ++ [y]) qt ∧ W'.cell? ⟨lb, 0, none⟩ = some vr ∧ W'.frozen? ⟨lb, 0, none⟩ = false := by
 have n1 := own_ne_cells h.rr h.cell (by decide)
 have hc : W'.heap[lb]? = _ := (hg.block lb (heap_lt h.cell) (fun e => n1 e.symm)).trans h.cell
 have hi : W'.heap[it]? = _ := (hg.block it (heap_lt h.iter) (fun e => own_ne_iter h.rr h.iter e.symm)).trans h.iter
 have ht : W'.ownsRow B 108 1 vt qt.length (iv (qt.map cls)) := own_grown h.rt hg (own_types h.rt h.rr (by decide))
 have n2 : v'.ownBlock ≠ some lb := own_ne_cells hown hc (by decide)
 have n3 : vt.ownBlock ≠ some lb := own_ne_cells ht hc (by decide)
 refine ⟨⟨by rw [Joins.block_setCell hc]; rfl, ?_, row_set ht n3 0 v', by rw [Below.heap_setCell _ _ _ _ h.ne.symm]; exact hi, h.low⟩, heap_cell hc 0, heap_free hc 0⟩
 rw [List.length_append, rv32, List.map_append]
 exact row_set hown n2 0 v'
theorem NL.pushT {y : Int} (h : NL W B lb it s p vr vt qr qt) (hown : W'.ownsRow B 108 1 v' (qt.length + 1) (iv (qt.map cls) ++ [.int .i64 (cls y)])) (hg : W.grownBy W' vt.ownBlock) :
  NL (W'.setCell ⟨lb, 1, none⟩ v') B lb it s p vr v' qr (qt ++ [y]) ∧ W'.cell? ⟨lb, 1, none⟩ = some vt ∧ W'.frozen? ⟨lb, 1, none⟩ = false := by
 have n1 := own_ne_cells h.rt h.cell (by decide)
 have hc : W'.heap[lb]? = _ := (hg.block lb (heap_lt h.cell) (fun e => n1 e.symm)).trans h.cell
 have hi : W'.heap[it]? = _ := (hg.block it (heap_lt h.iter) (fun e => own_ne_iter h.rt h.iter e.symm)).trans h.iter
 have hr : W'.ownsRow B 21 1 vr qr.length (rv32 qr) := own_grown h.rr hg (own_types h.rr h.rt (by decide))
 have n2 : v'.ownBlock ≠ some lb := own_ne_cells hown hc (by decide)
 have n3 : vr.ownBlock ≠ some lb := own_ne_cells hr hc (by decide)
 refine ⟨⟨by rw [Joins.block_setCell hc]; rfl, row_set hr n3 1 v', ?_, by rw [Below.heap_setCell _ _ _ _ h.ne.symm]; exact hi, h.low⟩, heap_cell hc 1, heap_free hc 1⟩
 rw [List.length_append, List.map_append, iv, List.map_append]
 exact row_set hown n2 1 v'
end
end Go.Proofs.YtkbinfhclaafhaaGreatDoor
namespace Go.Proofs.YtkbinfhclaafhaaGreatDoor
open Go.RowKit
theorem own_ne_map {w : World} {base : Nat} {e : TypeId} {size : Nat} {v : Value} {n : Nat} {xs : List Value} (h : w.ownsRow base e size v n xs) {K c : Nat} {es : Array MapEntry} (hk : w.heap[K]? = some (.map es c)) : v.ownBlock ≠ some K := by
 rcases h.2 with ⟨rfl, _⟩ | ⟨g, cap, cur, rfl, h2, h3, h4⟩
 ·simp [Value.ownBlock]
 ·simp only [Value.ownBlock]
  intro e
  obtain rfl := Option.some.inj e
  rw [hk] at h3
  cases h3
structure PS (W : World) (B s fb : Nat) (v fv : Value) (x : List Nat × List (Nat × Nat)) : Prop where
 stk : StkI W B s v x.1
 fit : FitAt W fb
 row : W.ownsRow B 268 2 fv x.2.length (pairsV x.2)
section
variable {W W' : World} {B s fb : Nat} {v fv v' fv' : Value} {x : List Nat × List (Nat × Nat)} {st' : List Nat}
theorem PS.below (h : PS W B s fb v fv x) (hb : Below W.heap.size W W') : PS W' B s fb v fv x := ⟨h.stk.below hb, h.fit.below hb, own_below h.row hb⟩
theorem PS.stack (h : PS W B s fb v fv x) (hs : StkI W' B s v' st') (hf : FrS W W' s v v') : PS W' B s fb v' fv (st', x.2) := by
 have hfs : fb ≠ s := by
  intro e
  have := h.fit
  rw [FitAt, e, h.stk.cell] at this
  cases this
 refine ⟨hs, (hf.block fb (heap_lt h.fit) hfs (own_ne_map h.stk.row h.fit)).trans h.fit, ownsRow_blocks h.row fun k o hk ho => ?_⟩
 rw [hf.block k (heap_lt ho) ?_ ?_]
 ·exact ho
 ·rintro rfl
  exact own_ne_cells h.row h.stk.cell (by decide) hk
 ·intro e
  rcases own_types h.row h.stk.row (by decide) with h1 | h1
  ·rw [h1] at hk; cases hk
  ·exact h1 (hk.trans e.symm)
theorem PS.app {a b : Nat} (h : PS W B s fb v fv x) (hown : W'.ownsRow B 268 2 fv' (x.2.length + 1) (pairsV x.2 ++ [.int .i64 (a : Nat), .int .i64 (b : Nat)])) (hg : W.grownBy W' fv.ownBlock) : PS W' B s fb v fv' (x.1, x.2 ++ [(a, b)]) := by
 refine ⟨⟨(hg.block s (heap_lt h.stk.cell) (fun e => own_ne_cells h.row h.stk.cell (by decide) e.symm)).trans h.stk.cell, own_grown h.stk.row hg (own_types h.stk.row h.row (by decide)), h.stk.low⟩, (hg.block fb (heap_lt h.fit) (fun e => own_ne_map h.row h.fit e.symm)).trans h.fit, ?_⟩
 have e := pairsV_snoc x.2 (a, b)
 simp only at e
 rw [e] at hown
 simpa using hown
end
def PsV (w : World) (B : Nat) (v : Value) (ps : List (Nat × Nat)) : Prop := (ps = [] ∧ ∃ a cap, v = .slice a 0 cap) ∨ ∃ g cap, v = .slice (some ⟨g, 0, none⟩) ps.length cap ∧ B ≤ g ∧ g < w.heap.size ∧ PsAt w g ps
theorem Tryz.infoBPair : (Tryz.prog.info? 268).map (fun i => (i.zero, i.size, i.bytes)) = some (some (.agg #[.int .i64 0, .int .i64 0]), 2, 16) := by kernel_rfl
def Br (w : World) : Prop := ∃ tt fr, w.heap[11]? = some (.cells brV tt fr)
theorem Br.below {w w' : World} (h : Br w) (hb : Below w.heap.size w w') : Br w' := by
 obtain ⟨tt, fr, h⟩ := h
 exact ⟨tt, fr, heap_keep hb h⟩
set_option maxRecDepth 100000 in
set_option maxHeartbeats 16000000 in
theorem bpairs_row (w : World) (B sb gc n cc gr cr : Nat) (pv bv : Value) (lev sos eos : Int) (t rs : List Int) (h : SqC w B sb gc n cc pv (.slice (some ⟨gr, 0, none⟩) n cr) bv lev sos eos t) (hr : Ru32 w gr n rs) (hbr : Br w) (hn : n ≤ 1000) :
  Calls Tryz.prog 211 #[.pointer (some ⟨sb, 0, none⟩)] w fun e w' => ∃ v ps, e = .returned v ∧ IsPairs t rs ps ∧ PsV w' w.heap.size v ps ∧ Below w.heap.size w w' := by
 obtain ⟨iP, hiP, hzP0, hzP1, hzP2⟩ := info_parts Tryz.infoBPair
 have H1 : Hid (∀ W, Below w.heap.size w W → SqC W B sb gc n cc pv (.slice (some ⟨gr, 0, none⟩) n cr) bv lev sos eos t) := fun W hb => h.below hb
 have H2 : Hid (∀ W, Below w.heap.size w W → Ru32 W gr n rs) := fun W hb => hr.below hb
 have H3 : Hid (∀ W, Below w.heap.size w W → Br W) := fun W hb => hbr.below hb
 have HC0 : Hid (Calls Tryz.prog 242 #[] w fun e w' => e = .returned (.map (some w.heap.size)) ∧ FitAt w' w.heap.size ∧ Below w.heap.size w w') := by
  obtain ⟨tt, fr, hb⟩ := hbr
  exact closings_any w tt fr hb
 have HT : Hid (t.length = n) := h.len
 clear h hr hbr
 go_enter Tryz.func211, Tryz.ntmps211
 go_wp2_with fail
 refine HC0.out.mono ?_
 rintro ev w1 ⟨rfl, hf1, hb1⟩
 clear HC0
 have hb1z := hb1.size
 have hb2 : Below w.heap.size w (w1.alloc (.cells #[.slice none 0 0] 257)) := hb1.alloc hb1z _
 have HP2 : Hid (PS (w1.alloc (.cells #[.slice none 0 0] 257)) w.heap.size w1.heap.size w.heap.size (.slice none 0 0) (.slice none 0 0) ([], [])) :=
  ⟨⟨Array.getElem?_push_size, World.ownsRow_nil _ _ _ _, hb1z⟩, hf1.below ((Below.refl _ _).alloc (Nat.le_refl _) _), World.ownsRow_nil _ _ _ _⟩
 have HB2 : Hid (Below w.heap.size w (w1.alloc (.cells #[.slice none 0 0] 257))) := hb2
 have c1 : (w1.alloc (.cells #[.slice none 0 0] 257)).cell? ⟨sb, 1, none⟩ = some (.slice (some ⟨gr, 0, none⟩) n cr) := heap_cell (H1.out _ hb2).cell 1
 clear hb1 hf1 hb2
 obtain ⟨fb, hfb⟩ : ∃ fb, fb = w.heap.size := ⟨_, rfl⟩
 obtain ⟨s, hs⟩ : ∃ s, s = w1.heap.size := ⟨_, rfl⟩
 have HP : Hid (PS (w1.alloc (.cells #[.slice none 0 0] 257)) w.heap.size s fb (.slice none 0 0) (.slice none 0 0) ([], [])) := by rw [hfb, hs]; exact HP2.out
 clear HP2
 rw [← hfb]
 clear hfb
 go_wp2
 rw [← hs]
 clear hs c1 hb1z
 generalize w1.alloc (.cells #[.slice none 0 0] 257) = W2 at *
 go_loopg [5, 16] n (fun gk fv iv W => ∃ (k : Nat) (v : Value) (x : List Nat × List (Nat × Nat)), k ≤ n ∧ gk = n - k ∧ iv = .int .i64 k ∧ Below w.heap.size w W ∧ PS W w.heap.size s fb v fv x ∧ PairOk k x ∧ StO rs x.1 ∧ pairF t rs (n - k) k x = pairF t rs n 0 ([], []))
 case atStart => exact ⟨0, _, ([], []), by omega, rfl, rfl, HB2.out, HP.out, PairOk.start, fun a ha => by simp at ha, rfl⟩
 case round =>
  clear HB2 HP
  obtain ⟨k, v, x, hk, rfl, rfl, hb, hP, hO, hSt, hF⟩ := hrel
  have hbz := hb.size
  obtain ⟨fa, fc, rfl⟩ := own_form hP.row
  by_cases hlt : k < n
  ·have hnk : n - k = (n - (k + 1)) + 1 := by omega
   rw [hnk] at hF
   have c1 := (H2.out wr hb) k hlt
   have c2 := (H1.out wr hb).f2
   have c3 := (H1.out wr hb).at k hlt
   have hkn : (k : Int) < (n : Int) := by omega
   have HB : Hid (Below w.heap.size w wr) := hb
   have HPS : Hid (PS wr w.heap.size s fb v (.slice fa x.2.length fc) x) := hP
   have HOk : Hid (PairOk k x) := hO
   have HSt : Hid (StO rs x.1) := hSt
   have hx63 : x.1.length ≤ 63 := hO.len
   by_cases ht : t.getD k 0 = 12
   ·rw [ht] at c3
    by_cases h1 : (brk (rs.getD k 0)).1 = 1
    ·have HOp : Hid (∀ W, Below w.heap.size w W → Calls Tryz.prog 243 #[.int .i32 (rs.getD k 0)] W fun e w' => e = .returned (.bool true) ∧ Below W.heap.size W w') := fun W hW => by
      obtain ⟨tt, fr, hh⟩ := H3.out W hW
      have := opens_any (rs.getD k 0) W tt fr hh
      rw [decide_eq_true h1] at this
      exact this
     by_cases h63 : x.1.length = 63
     ·have HN : Hid (pairF t rs n 0 ([], []) = none) := by
       show _ = _
       rw [← hF]
       exact pairF_no (by rw [pairStep, if_pos ht, if_pos h1, if_pos h63])
      clear hF hP hO hSt hb h1 ht hx63
      have HL : Hid (∀ W, Below wr.heap.size wr W → Calls Tryz.prog 244 #[.pointer (some ⟨s, 0, none⟩)] W fun e w' => e = .returned (.int .i64 ((63 : Nat) : Int)) ∧ w' = W) := fun W hW => by
       have := lenI_any W w.heap.size s v x.1 (HPS.out.below hW).stk
       rw [h63] at this
       exact this
      clear h63
      generalize rs.getD k 0 = r at *
      go_wp2_with fail
      refine (HOp.out wr HB.out).mono ?_
      rintro ev w3 ⟨rfl, hb3⟩
      have HB3 : Hid (Below w.heap.size w w3) := HB.out.trans (hb3.mono hbz)
      have HR3 : Hid (Below wr.heap.size wr w3) := hb3
      clear hb3
      go_wp2_with fail
      refine (HL.out w3 HR3.out).mono ?_
      rintro ev wx ⟨rfl, hx⟩
      have hx' := hx.symm
      subst hx'
      clear HL
      go_wp2
      go_ret
      exact ⟨_, [], rfl, by unfold IsPairs; rw [HT.out, HN.out], .inl ⟨rfl, _, _, rfl⟩, HB3.out⟩
     ·have HN : Hid (pairF t rs (n - (k + 1)) (k + 1) (x.1 ++ [k], x.2) = pairF t rs n 0 ([], [])) := by
       show _ = _
       rw [← hF]
       exact (pairF_go (by rw [pairStep, if_pos ht, if_pos h1, if_neg h63])).symm
      have HOk2 : Hid (PairOk (k + 1) (x.1 ++ [k], x.2)) := hO.push h63
      have HSt2 : Hid (StO rs (x.1 ++ [k])) := fun a ha => by
       simp at ha
       rcases ha with ha | rfl
       ·exact hSt a ha
       ·exact h1
      clear hF hP hO hSt hb h1 ht
      have HL : Hid (∀ W, Below wr.heap.size wr W → Calls Tryz.prog 244 #[.pointer (some ⟨s, 0, none⟩)] W fun e w' => e = .returned (.int .i64 x.1.length) ∧ w' = W) := fun W hW => lenI_any W w.heap.size s v x.1 (HPS.out.below hW).stk
      have HPu : Hid (∀ W, Below wr.heap.size wr W → Calls Tryz.prog 197 #[.pointer (some ⟨s, 0, none⟩), .int .i64 k] W fun e w' => e = .returned (.tuple #[]) ∧ ∃ v', StkI w' w.heap.size s v' (x.1 ++ [k]) ∧ FrS W w' s v v') := fun W hW => pushI_any W w.heap.size s v x.1 k (HPS.out.below hW).stk (by omega)
      generalize rs.getD k 0 = r at *
      have h63' : ((x.1.length : Int) == 63) = false := by simp; omega
      have hxz : (0 : Int) ≤ (x.1.length : Int) := Int.natCast_nonneg _
      generalize (x.1.length : Int) = xl at *
      go_wp2_with fail
      refine (HOp.out wr HB.out).mono ?_
      rintro ev w3 ⟨rfl, hb3⟩
      have HB3 : Hid (Below w.heap.size w w3) := HB.out.trans (hb3.mono hbz)
      have HR3 : Hid (Below wr.heap.size wr w3) := hb3
      clear hb3
      go_wp2_with fail
      refine (HL.out w3 HR3.out).mono ?_
      rintro ev wx ⟨rfl, hx⟩
      have hx' := hx.symm
      subst hx'
      clear HL
      go_wp2_with fail
      refine (HOp.out w3 HB3.out).mono ?_
      rintro ev w4 ⟨rfl, hb4⟩
      have HB4 : Hid (Below w.heap.size w w4) := HB3.out.trans (hb4.mono HB3.out.size)
      have HR4 : Hid (Below wr.heap.size wr w4) := HR3.out.trans (hb4.mono HR3.out.size)
      clear hb4 HR3 HOp
      go_wp2_with fail
      refine (HPu.out w4 HR4.out).mono ?_
      rintro ev w5 ⟨rfl, v5, hs5, hf5⟩
      have HB5 : Hid (Below w.heap.size w w5) := hf5.below (HPS.out.below HR4.out).stk HB4.out
      have HP5 : Hid (PS w5 w.heap.size s fb v5 (.slice fa x.2.length fc) (x.1 ++ [k], x.2)) := (HPS.out.below HR4.out).stack hs5 hf5
      clear hs5 hf5 HPu
      go_wp2
      go_roundg (n - (k + 1))
      case measure => omega
      case rel => exact ⟨k + 1, v5, (x.1 ++ [k], x.2), by omega, rfl, by go_num, HB5.out, HP5.out, HOk2.out, HSt2.out, HN.out⟩
    ·have HOp : Hid (∀ W, Below w.heap.size w W → Calls Tryz.prog 243 #[.int .i32 (rs.getD k 0)] W fun e w' => e = .returned (.bool false) ∧ Below W.heap.size W w') := fun W hW => by
      obtain ⟨tt, fr, hh⟩ := H3.out W hW
      have := opens_any (rs.getD k 0) W tt fr hh
      rw [decide_eq_false h1] at this
      exact this
     by_cases h2 : (brk (rs.getD k 0)).1 = 2
     ·have HCl : Hid (∀ W, Below w.heap.size w W → Calls Tryz.prog 245 #[.int .i32 (rs.getD k 0)] W fun e w' => e = .returned (.bool true) ∧ Below W.heap.size W w') := fun W hW => by
       obtain ⟨tt, fr, hh⟩ := H3.out W hW
       have := closes_any (rs.getD k 0) W tt fr hh
       rw [decide_eq_true h2] at this
       exact this
      have HSh := fun W (hW : Below wr.heap.size wr W) (hW2 : Below w.heap.size w W) => closed_row W B sb gc n cc gr cr w.heap.size s fb v pv bv lev sos eos t rs x.1 (rs.getD k 0) (H1.out W hW2) (H2.out W hW2) (HPS.out.below hW).stk (HPS.out.below hW).fit (fun a ha => Nat.lt_trans (HOk.out.st a ha) hlt) HSt.out h2 (by omega)
      have HSh' : Hid (∀ W, Below wr.heap.size wr W → Below w.heap.size w W → Calls Tryz.prog 246 #[.pointer (some ⟨sb, 0, none⟩), .pointer (some ⟨s, 0, none⟩), .map (some fb), .int .i32 (rs.getD k 0)] W fun e w' =>
   (∃ m v', shutM rs (brk (rs.getD k 0)).2 x.1 x.1.length = some m ∧ e = .returned (.tuple #[.int .i64 (x.1.getD m 0 : Nat), .bool true]) ∧ StkI w' w.heap.size s v' (x.1.take m) ∧ FrS W w' s v v') ∨
   (shutM rs (brk (rs.getD k 0)).2 x.1 x.1.length = none ∧ e = .returned (.tuple #[.int .i64 0, .bool false]) ∧ Below W.heap.size W w')) := HSh
      have HN1 : Hid (∀ m, shutM rs (brk (rs.getD k 0)).2 x.1 x.1.length = some m → pairF t rs (n - (k + 1)) (k + 1) (x.1.take m, x.2 ++ [(x.1.getD m 0, k)]) = pairF t rs n 0 ([], []) ∧ PairOk (k + 1) (x.1.take m, x.2 ++ [(x.1.getD m 0, k)]) ∧ StO rs (x.1.take m)) := fun m hm => by
       have e : pairStep t rs k x = some (x.1.take m, x.2 ++ [(x.1.getD m 0, k)]) := by rw [pairStep, if_pos ht, if_neg h1, if_pos h2, hm]
       exact ⟨by rw [← hF]; exact (pairF_go e).symm, HOk.out.step e, HSt.out.step e⟩
      have HN2 : Hid (shutM rs (brk (rs.getD k 0)).2 x.1 x.1.length = none → pairF t rs (n - (k + 1)) (k + 1) x = pairF t rs n 0 ([], [])) := fun hm => by
       have e : pairStep t rs k x = some x := by rw [pairStep, if_pos ht, if_neg h1, if_pos h2, hm]
       rw [← hF]; exact (pairF_go e).symm
      have hx2 : x.2.length ≤ 1000 := by have := hO.few; omega
      clear hF hP hO hSt hb h1 h2 ht HSh
      generalize rs.getD k 0 = r at *
      go_wp2_with fail
      refine (HOp.out wr HB.out).mono ?_
      rintro ev w3 ⟨rfl, hb3⟩
      have HB3 : Hid (Below w.heap.size w w3) := HB.out.trans (hb3.mono hbz)
      have HR3 : Hid (Below wr.heap.size wr w3) := hb3
      clear hb3
      go_wp2_with fail
      refine (HOp.out w3 HB3.out).mono ?_
      rintro ev w4 ⟨rfl, hb4⟩
      have HB4 : Hid (Below w.heap.size w w4) := HB3.out.trans (hb4.mono HB3.out.size)
      have HR4 : Hid (Below wr.heap.size wr w4) := HR3.out.trans (hb4.mono HR3.out.size)
      clear hb4 HR3 HOp
      go_wp2_with fail
      refine (HCl.out w4 HB4.out).mono ?_
      rintro ev w5 ⟨rfl, hb5⟩
      have HB5 : Hid (Below w.heap.size w w5) := HB4.out.trans (hb5.mono HB4.out.size)
      have HR5 : Hid (Below wr.heap.size wr w5) := HR4.out.trans (hb5.mono HR4.out.size)
      clear hb5 HR4 HCl
      go_wp2_with fail
      refine (HSh'.out w5 HR5.out HB5.out).mono ?_
      rintro ev w6 (⟨m, v6, hm, rfl, hs6, hf6⟩ | ⟨hm, rfl, hb6⟩)
      ·obtain ⟨hN, hOk, hSO⟩ := HN1.out m hm
       have HB6 : Hid (Below w.heap.size w w6) := hf6.below (HPS.out.below HR5.out).stk HB5.out
       have HP6 : Hid (PS w6 w.heap.size s fb v6 (.slice fa x.2.length fc) (x.1.take m, x.2)) := (HPS.out.below HR5.out).stack hs6 hf6
       have HNN : Hid _ := hN
       have HOO : Hid _ := hOk
       have HSS : Hid _ := hSO
       clear hN hOk hSO hm hs6 hf6 HSh'
       have hrow : w6.ownsRow w.heap.size 268 2 (.slice fa x.2.length fc) x.2.length (pairsV x.2) := HP6.out.row
       have hbz6 := HB6.out.size
       generalize x.1.getD m 0 = q at *
       go_wp2_with (at_builtin; refine wpList_pushP _ rfl _ _ 265 rfl w.heap.size 268 iP (.agg #[.int .i64 0, .int .i64 0]) 16 Tryz.underlying265 hiP hzP0 hzP1 hzP2 rfl (by decide) _ _ _ rfl hrow _ _ _ _ rfl (by simp) rfl rfl (by omega) hbz6 ?_)
       intro v7 w7 hown7 hg7
       have HP7 : Hid (PS w7 w.heap.size s fb v6 v7 (x.1.take m, x.2 ++ [(q, k)])) := HP6.out.app hown7 hg7
       have HB7 : Hid (Below w.heap.size w w7) := HB6.out.grown hg7 hbz6 (fun y hy => (hrow.lt y hy).1)
       clear hown7 hg7 hrow
       go_wp2
       go_roundg (n - (k + 1))
       case measure => omega
       case rel => exact ⟨k + 1, v6, (x.1.take m, x.2 ++ [(q, k)]), by omega, rfl, by go_num, HB7.out, HP7.out, HOO.out, HSS.out, HNN.out⟩
      ·have HB6 : Hid (Below w.heap.size w w6) := HB5.out.trans (hb6.mono HB5.out.size)
       have HP6 : Hid (PS w6 w.heap.size s fb v (.slice fa x.2.length fc) x) := (HPS.out.below HR5.out).below hb6
       have HNN : Hid _ := HN2.out hm
       have HOO : Hid (PairOk (k + 1) x) := HOk.out.more
       clear hm hb6 HSh'
       go_wp2
       go_roundg (n - (k + 1))
       case measure => omega
       case rel => exact ⟨k + 1, v, x, by omega, rfl, by go_num, HB6.out, HP6.out, HOO.out, HSt.out, HNN.out⟩
     ·have HCl : Hid (∀ W, Below w.heap.size w W → Calls Tryz.prog 245 #[.int .i32 (rs.getD k 0)] W fun e w' => e = .returned (.bool false) ∧ Below W.heap.size W w') := fun W hW => by
       obtain ⟨tt, fr, hh⟩ := H3.out W hW
       have := closes_any (rs.getD k 0) W tt fr hh
       rw [decide_eq_false h2] at this
       exact this
      have HN : Hid (pairF t rs (n - (k + 1)) (k + 1) x = pairF t rs n 0 ([], [])) := by
       show _ = _
       rw [← hF]
       exact (pairF_go (by rw [pairStep, if_pos ht, if_neg h1, if_neg h2])).symm
      have HOO : Hid (PairOk (k + 1) x) := hO.more
      clear hF hP hO hSt hb h1 h2 ht
      generalize rs.getD k 0 = r at *
      go_wp2_with fail
      refine (HOp.out wr HB.out).mono ?_
      rintro ev w3 ⟨rfl, hb3⟩
      have HB3 : Hid (Below w.heap.size w w3) := HB.out.trans (hb3.mono hbz)
      have HP3 : Hid (PS w3 w.heap.size s fb v (.slice fa x.2.length fc) x) := HPS.out.below hb3
      clear hb3
      go_wp2_with fail
      refine (HOp.out w3 HB3.out).mono ?_
      rintro ev w4 ⟨rfl, hb4⟩
      have HB4 : Hid (Below w.heap.size w w4) := HB3.out.trans (hb4.mono HB3.out.size)
      have HP4 : Hid (PS w4 w.heap.size s fb v (.slice fa x.2.length fc) x) := HP3.out.below hb4
      clear hb4 HOp
      go_wp2_with fail
      refine (HCl.out w4 HB4.out).mono ?_
      rintro ev w5 ⟨rfl, hb5⟩
      have HB5 : Hid (Below w.heap.size w w5) := HB4.out.trans (hb5.mono HB4.out.size)
      have HP5 : Hid (PS w5 w.heap.size s fb v (.slice fa x.2.length fc) x) := HP4.out.below hb5
      clear hb5 HCl
      go_wp2
      go_roundg (n - (k + 1))
      case measure => omega
      case rel => exact ⟨k + 1, v, x, by omega, rfl, by go_num, HB5.out, HP5.out, HOO.out, HSt.out, HN.out⟩
   ·have HN : Hid (pairF t rs (n - (k + 1)) (k + 1) x = pairF t rs n 0 ([], [])) := by
     show _ = _
     rw [← hF]
     exact (pairF_go (by rw [pairStep, if_neg ht])).symm
    have ht' : (t.getD k 0 == 12) = false := by simpa using ht
    clear hF hP hO hSt hb ht
    generalize t.getD k 0 = c at *
    generalize rs.getD k 0 = r at *
    go_wp2
    go_roundg (n - (k + 1))
    case measure => omega
    case rel => exact ⟨k + 1, v, x, by omega, rfl, by go_num, HB.out, HPS.out, HOk.out.more, HSt.out, HN.out⟩
  ·obtain rfl : k = n := by omega
   rw [Nat.sub_self, pairF] at hF
   have hkn : ¬ (k : Int) < (k : Int) := by omega
   have HB : Hid (Below w.heap.size w wr) := hb
   have HF : Hid (pairF t rs k 0 ([], []) = some x.2) := hF.symm
   have HRow : Hid (wr.ownsRow w.heap.size 268 2 (.slice fa x.2.length fc) x.2.length (pairsV x.2)) := hP.row
   have hx2 : x.2.length ≤ 1000 := by have := hO.few; omega
   clear hF hP hO hSt hb
   generalize x.2 = out at *
   by_cases h0 : out = []
   ·subst h0
    have HS : Hid (∀ f, Calls Tryz.prog 247 #[.slice fa 0 fc, f] wr fun e w' => e = .returned (.tuple #[]) ∧ w' = wr) := fun f => AnyF.slices_SortFunc_none Tryz.laysSort fa fc f wr
    clear HRow hx2
    go_wp2_with fail
    refine (HS.out _).mono ?_
    rintro ev wx ⟨rfl, hx⟩
    have hx' := hx.symm
    subst hx'
    clear HS
    go_wp2
    go_ret
    exact ⟨_, [], rfl, by unfold IsPairs; rw [HT.out, HF.out]; exact ⟨.refl _, .nil⟩, .inl ⟨rfl, _, _, rfl⟩, HB.out⟩
   ·obtain ⟨g, cp, he, _, _, hgB⟩ := own_some HRow.out (List.length_pos_iff.2 h0)
    simp only [Value.slice.injEq, true_and] at he
    obtain ⟨rfl, rfl⟩ := he
    have HS : Hid (Calls Tryz.prog 247 #[.slice (some ⟨g, 0, none⟩) out.length fc, .func (.func 248) #[] #[]] wr fun e w' => e = .returned (.tuple #[]) ∧ ∃ ps : List (Nat × Nat), ps.Perm out ∧ ps.Pairwise (fun a b => a.1 ≤ b.1) ∧ PsAt w' g ps ∧ Below w.heap.size wr w' ∧ g < w'.heap.size) := sortP_row wr w.heap.size g _ out HRow.out hx2
    clear HRow h0
    go_wp2_with fail
    refine HS.out.mono ?_
    rintro ev w3 ⟨rfl, ps, hp, hs, hA, hb3, hg3⟩
    have HX : Hid (ps.Perm out ∧ ps.Pairwise (fun a b => a.1 ≤ b.1) ∧ PsAt w3 g ps) := ⟨hp, hs, hA⟩
    have HB3 : Hid (Below w.heap.size w w3) := HB.out.trans hb3
    clear hp hs hA hb3 HS
    go_wp2
    go_ret
    exact ⟨_, ps, rfl, by unfold IsPairs; rw [HT.out, HF.out]; exact ⟨HX.out.1, HX.out.2.1⟩, .inr ⟨g, _, by rw [HX.out.1.length_eq]; rfl, hgB, hg3, HX.out.2.2⟩, HB3.out⟩
end Go.Proofs.YtkbinfhclaafhaaGreatDoor
namespace Go.Proofs.YtkbinfhclaafhaaGreatDoor
open Go.RowKit
theorem strongS_no {c : Int} : (strongS c < 0 ↔ strongS c = -1) := by
 unfold strongS
 split
 ·omega
 ·split <;> omega
set_option maxRecDepth 100000 in
set_option maxHeartbeats 4000000 in
theorem sideAhead_any (w : World) (B sb gc n cc : Nat) (pv rv bv : Value) (lev sos eos : Int) (t : List Int) (h : SqC w B sb gc n cc pv rv bv lev sos eos t) (hn : n ≤ 1000) (f : Nat) (hf : f < n) :
  Calls Tryz.prog 250 #[.pointer (some ⟨sb, 0, none⟩), .int .i64 f] w fun e w' => e = .returned (.int .i64 (lastF sos t f)) ∧ w' = w := by
 have c2 := h.f2
 have c5 := h.f5
 have HT : Hid (∀ k, k < n → w.cell? ⟨gc, k, none⟩ = some (.int .i64 (t.getD k 0))) := fun k hk => h.at k hk
 obtain ⟨P, hP⟩ : ∃ P, P = lastF sos t f := ⟨_, rfl⟩
 rw [← hP]
 have HP : Hid (lastF sos t f = P) := hP.symm
 clear h hP
 go_enter Tryz.func250, Tryz.ntmps250
 go_wp2
 go_loopg [5] f (fun gh kv W => ∃ k : Nat, k ≤ f ∧ gh = k ∧ kv = .int .i64 ((k : Int) - 1) ∧ W = w ∧ lastF sos t k = P)
 case atStart => exact ⟨f, Nat.le_refl _, rfl, rfl, rfl, HP.out⟩
 case round =>
  obtain ⟨k, hk, rfl, rfl, hW, hp⟩ := hrel
  have hW' := hW.symm
  subst hW'
  clear HP
  cases gk with
  | zero =>
   have hp0 : sos = P := hp
   subst hp0
   go_wp2
   go_ret
   exact ⟨rfl, rfl⟩
  | succ k =>
   have hkn : k < n := by omega
   have b1 := HT.out k hkn
   have e1 : ((k + 1 : Nat) : Int) - 1 = (k : Int) := by omega
   rw [e1]
   rw [lastF] at hp
   have hk' : (k : Int) < (n : Int) := by omega
   have hk0 : (0 : Int) ≤ (k : Int) := by omega
   generalize t.getD k 0 = c at *
   have HS : Hid (∀ W, Calls Tryz.prog 217 #[.int .i64 c] W fun e w' => e = .returned (.int .i64 (strongS c)) ∧ w' = W) := fun W => bside_any c W
   by_cases hl : strongS c < 0
   ·rw [if_pos hl] at hp
    have HP : Hid (lastF sos t k = P) := hp
    have hm : strongS c = -1 := strongS_no.1 hl
    rw [hm] at HS
    clear hp hl hm
    go_wp2_with fail
    refine (HS.out _).mono ?_
    rintro ev wx ⟨rfl, hx⟩
    subst hx
    go_wp2
    go_roundg k
    case measure => omega
    case rel => exact ⟨k, by omega, rfl, by go_num, rfl, HP.out⟩
   ·rw [if_neg hl] at hp
    have hm : (strongS c != -1) = true := by
     simp only [bne_iff_ne, ne_eq]
     intro e
     exact hl (strongS_no.2 e)
    generalize strongS c = sc at *
    subst hp
    clear hl
    go_wp2_with fail
    refine (HS.out _).mono ?_
    rintro ev wx ⟨rfl, hx⟩
    subst hx
    go_wp2
    go_ret
    exact ⟨rfl, rfl⟩
set_option maxRecDepth 100000 in
set_option maxHeartbeats 4000000 in
theorem setBr_row (w : World) (B sb gc n cc gb cb : Nat) (pv rv : Value) (lev sos eos : Int) (t orig : List Int) (h : SqC w B sb gc n cc pv rv (.slice (some ⟨gb, 0, none⟩) n cb) lev sos eos t) (ho : IntsAt w gb 0 orig) (hl : orig.length = n) (hg : gb ≠ gc) (hn : n ≤ 1000) (k : Nat) (hk : k < n) (d : Int) :
  Calls Tryz.prog 213 #[.pointer (some ⟨sb, 0, none⟩), .int .i64 k, .int .i64 d] w fun e w' => e = .returned (.tuple #[]) ∧ SqC w' B sb gc n cc pv rv (.slice (some ⟨gb, 0, none⟩) n cb) lev sos eos (setBr orig d k t) ∧ w.grownBy w' (some gc) := by
 have c2 := h.f2
 have ck := h.at k hk
 have fk := h.frozen k
 have hk' : (k : Int) < (n : Int) := by omega
 have HS1 : Hid (SqC (w.setCell ⟨gc, k, none⟩ (.int .i64 d)) B sb gc n cc pv rv (.slice (some ⟨gb, 0, none⟩) n cb) lev sos eos (fillV t k d 1)) := h.set k d
 have HG1 : Hid (w.grownBy (w.setCell ⟨gc, k, none⟩ (.int .i64 d)) (some gc)) := h.grown k d
 have HO : Hid (∀ W, w.grownBy W (some gc) → ∀ q, q < n → W.cell? ⟨gb, q, none⟩ = some (.int .i64 (orig.getD q 0))) := fun W hG q hq => by
  have h1 := ho q (by rw [hl]; exact hq)
  rw [Nat.zero_add] at h1
  have hlt : gb < w.heap.size := by
   rcases Nat.lt_or_ge gb w.heap.size with h' | h'
   ·exact h'
   ·simp [World.cell?, Array.getElem?_eq_none h'] at h1
  simp only [World.cell?] at h1 ⊢
  rw [hG.block gb hlt (fun e => hg (Option.some.inj e))]
  exact h1
 have HL : Hid (orig.length = n) := hl
 generalize t.getD k 0 = q0 at *
 clear h ho hl
 unfold setBr
 go_enter Tryz.func213, Tryz.ntmps213
 go_wp2
 clear c2 ck fk
 go_loopg [6] (n - (k + 1)) (fun gk iv wr => ∃ m : Nat, k + 1 + m ≤ n ∧ gk = n - (k + 1 + m) ∧ iv = .int .i64 ((k + 1 + m : Nat) : Int) ∧ SqC wr B sb gc n cc pv rv (.slice (some ⟨gb, 0, none⟩) n cb) lev sos eos (fillV t k d (1 + m)) ∧ w.grownBy wr (some gc) ∧ nsm (orig.drop (k + 1)) = m + nsm (orig.drop (k + 1 + m)))
 case atStart => exact ⟨0, by omega, rfl, by go_num, HS1.out, HG1.out, by rw [Nat.zero_add]⟩
 case round =>
  clear HS1 HG1
  obtain ⟨m, hm, rfl, rfl, hS, hG, hN⟩ := hrel
  have c2 := hS.f2
  have c3 : wr.cell? ⟨sb, 3, none⟩ = some (.slice (some ⟨gb, 0, none⟩) n cb) := heap_cell hS.cell 3
  have HS : Hid (SqC wr B sb gc n cc pv rv (.slice (some ⟨gb, 0, none⟩) n cb) lev sos eos (fillV t k d (1 + m))) := hS
  have HG : Hid (w.grownBy wr (some gc)) := hG
  have ecast : ((k + 1 + m : Nat) : Int) = (k : Int) + 1 + (m : Int) := by omega
  by_cases hlt : k + 1 + m < n
  ·have co := HO.out wr hG (k + 1 + m) hlt
   have cq := hS.at (k + 1 + m) hlt
   have fq := hS.frozen (k + 1 + m)
   have h1 : (k : Int) + 1 + (m : Int) < (n : Int) := by omega
   rw [nsm_more (m := k + 1 + m) (by rw [HL.out]; exact hlt)] at hN
   clear hS hG
   generalize (fillV t k d (1 + m)).getD (k + 1 + m) 0 = q at *
   by_cases h8 : orig.getD (k + 1 + m) 0 = 8
   ·rw [if_pos h8] at hN
    rw [h8] at co
    have HN : Hid (nsm (orig.drop (k + 1)) = (m + 1) + nsm (orig.drop (k + 1 + (m + 1)))) := by show _ = _; rw [hN, ← Nat.add_assoc (k + 1)]; omega
    have HS2 : Hid (SqC (wr.setCell ⟨gc, k + 1 + m, none⟩ (.int .i64 d)) B sb gc n cc pv rv (.slice (some ⟨gb, 0, none⟩) n cb) lev sos eos (fillV t k d (1 + (m + 1)))) := by
     have := HS.out.set (k + 1 + m) d
     show SqC _ _ _ _ _ _ _ _ _ _ _ _ (fillV t k d (1 + (m + 1)))
     rw [show 1 + (m + 1) = (1 + m) + 1 by omega, fillV, show k + (1 + m) = k + 1 + m by omega]
     exact this
    have HG2 : Hid (w.grownBy (wr.setCell ⟨gc, k + 1 + m, none⟩ (.int .i64 d)) (some gc)) := HG.out.trans (HS.out.grown (k + 1 + m) d)
    clear hN h8
    go_wp2
    go_roundg (n - (k + 1 + (m + 1)))
    case measure => omega
    case rel => exact ⟨m + 1, by omega, rfl, by go_num, HS2.out, HG2.out, HN.out⟩
   ·rw [if_neg h8] at hN
    have q8 : (orig.getD (k + 1 + m) 0 == 8) = false := by simpa using h8
    have HE : Hid (1 + nsm (orig.drop (k + 1)) = 1 + m) := by show _ = _; omega
    clear hN h8
    generalize orig.getD (k + 1 + m) 0 = oq at *
    go_wp2
    go_end0
    rw [HE.out]
    exact ⟨rfl, HS.out, HG.out⟩
  ·have h1 : ¬ (k : Int) + 1 + (m : Int) < (n : Int) := by omega
   have h2 : decide ((k : Int) + 1 + (m : Int) < (n : Int)) = false := by simpa using h1
   rw [nsm_end (m := k + 1 + m) (by rw [HL.out]; exact hlt)] at hN
   have HE : Hid (1 + nsm (orig.drop (k + 1)) = 1 + m) := by show _ = _; omega
   clear hS hG hN
   go_wp2
   go_end0
   rw [HE.out]
   exact ⟨rfl, HS.out, HG.out⟩
end Go.Proofs.YtkbinfhclaafhaaGreatDoor
namespace Go.Proofs.YtkbinfhclaafhaaGreatDoor
open Go.RowKit
set_option maxRecDepth 100000 in
set_option maxHeartbeats 16000000 in
theorem pairSide_any (w : World) (B sb gc n cc : Nat) (pv rv bv : Value) (lev sos eos : Int) (t : List Int) (h : SqC w B sb gc n cc pv rv bv lev sos eos t) (hn : n ≤ 1000) (hlev : 0 ≤ lev) (a b : Nat) (hab : a < b) (hb : b < n) :
  Calls Tryz.prog 212 #[.pointer (some ⟨sb, 0, none⟩), .agg #[.int .i64 a, .int .i64 b]] w fun e w' => e = .returned (.int .i64 (pairSideP t (a, b) (lev % 2) sos)) ∧ Below w.heap.size w w' := by
 have hb1 : Below w.heap.size w (w.alloc (.cells #[.int .i64 a, .int .i64 b] 268)) := (Below.refl _ _).alloc (Nat.le_refl _) _
 have hS1 := h.below hb1
 have c2 := hS1.f2
 have c4 := hS1.f4
 have hcc : n ≤ cc := by
  obtain ⟨g', c', hv, hc, _⟩ := own_some h.row (show 0 < n by omega)
  have : cc = c' := by have := hv; simp at this; exact this.2
  omega
 have HA : Hid (∀ W, Below w.heap.size w W → Calls Tryz.prog 250 #[.pointer (some ⟨sb, 0, none⟩), .int .i64 a] W fun e w' => e = .returned (.int .i64 (lastF sos t a)) ∧ w' = W) := fun W hW => sideAhead_any W B sb gc n cc pv rv bv lev sos eos t (h.below hW) hn a (by omega)
 have HT : Hid (∀ W, Below w.heap.size w W → ∀ k, k < n → W.cell? ⟨gc, k, none⟩ = some (.int .i64 (t.getD k 0))) := fun W hW k hk => (h.below hW).at k hk
 have HSo : Hid (∀ W, Calls Tryz.prog 96 #[.int .i64 lev] W fun e w' => e = .returned (.int .i64 (lev % 2)) ∧ w' = W) := fun W => sideOf_any lev W hlev
 have HB1 : Hid (Below w.heap.size w (w.alloc (.cells #[.int .i64 a, .int .i64 b] 268))) := hb1
 obtain ⟨own, hown⟩ : ∃ own, own = lev % 2 := ⟨_, rfl⟩
 rw [← hown] at HSo ⊢
 obtain ⟨P, hP⟩ : ∃ P, P = pairSideP t (a, b) own sos := ⟨_, rfl⟩
 rw [← hP]
 unfold pairSideP at hP
 have HP : Hid (P = if hasF own t (a + 1) (b - (a + 1)) = true then own else if othF t (a + 1) (b - (a + 1)) (-1) ≠ -1 ∧ lastF sos t a ≠ othF t (a + 1) (b - (a + 1)) (-1) then own else othF t (a + 1) (b - (a + 1)) (-1)) := hP
 have g0 : (w.alloc (.cells #[.int .i64 a, .int .i64 b] 268)).cell? ⟨w.heap.size, 0, none⟩ = some (.int .i64 a) := by go_simp
 have g1 : (w.alloc (.cells #[.int .i64 a, .int .i64 b] 268)).cell? ⟨w.heap.size, 1, none⟩ = some (.int .i64 b) := by go_simp
 have hi1 : (a : Int) + 1 ≤ (b : Int) := by omega
 have hi2 : (b : Int) ≤ (cc : Int) := by omega
 have hi3 : ((a : Int) + 1).toNat = a + 1 := by omega
 have hi4 : (cc : Int) ≠ (a : Int) + 1 := by omega
 clear h hb1 hS1 hown hP
 generalize hW1 : w.alloc (.cells #[.int .i64 a, .int .i64 b] 268) = W1 at *
 go_enter Tryz.func212, Tryz.ntmps212
 go_wp2_with fail
 refine (HSo.out _).mono ?_
 rintro ev wx ⟨rfl, hx⟩
 have hx' := hx.symm
 subst hx'
 clear hW1
 generalize w.heap.size = bx at g0 g1 ⊢
 go_wp2_with fail
 go_quiet (fail)
 have HB2 : Hid (Below w.heap.size w (W1.drewN nq)) := below_drewN HB1.out _
 have g0' : (W1.drewN nq).cell? ⟨bx, 0, none⟩ = some (.int .i64 a) := g0
 generalize W1.drewN nq = W2 at *
 clear g0 g1 c2 c4 hi1 hi2 hi3 hi4 HB1
 obtain ⟨m, hm⟩ : ∃ m, m = b - (a + 1) := ⟨_, rfl⟩
 rw [← hm] at HP ⊢
 have HM : Hid (a + 1 + m = b) := by show _ = _; omega
 have hm1 : m ≤ 1000 := by omega
 clear hm
 go_wp2
 go_loopg [6, 25] m (fun gk wv iv W => ∃ (j : Nat) (q : Int), j ≤ m ∧ gk = m - j ∧ wv = .int .i64 q ∧ iv = .int .i64 j ∧ W = W2 ∧ hasF own t (a + 1) m = hasF own t (a + 1 + j) (m - j) ∧ othF t (a + 1) m (-1) = othF t (a + 1 + j) (m - j) q)
 case atStart => exact ⟨0, -1, by omega, rfl, rfl, rfl, rfl, rfl, rfl⟩
 case round =>
  obtain ⟨j, q, hj, rfl, rfl, rfl, hW, h1, h2⟩ := hrel
  have hW' := hW.symm
  subst hW'
  by_cases hlt : j < m
  ·have hjm : (j : Int) < (m : Int) := by omega
   have ck := HT.out W2 HB2.out (a + 1 + j) (by have := HM.out; omega)
   obtain ⟨r, hr⟩ : ∃ r, m - j = r + 1 := ⟨m - j - 1, by omega⟩
   rw [hr, hasF] at h1
   rw [hr, othF] at h2
   have er : m - (j + 1) = r := by omega
   generalize t.getD (a + 1 + j) 0 = c at *
   have HS : Hid (∀ W, Calls Tryz.prog 217 #[.int .i64 c] W fun e w' => e = .returned (.int .i64 (strongS c)) ∧ w' = W) := fun W => bside_any c W
   generalize strongS c = sc at *
   by_cases ho : sc = own
   ·have HH : Hid (P = own) := by
     show _ = _
     rw [HP.out, h1, ho, if_pos (by simp)]
    subst ho
    clear h1 h2
    go_wp2_with fail
    refine (HS.out _).mono ?_
    rintro ev wx ⟨rfl, hx⟩
    have hx' := hx.symm
    subst hx'
    go_wp2
    go_ret
    exact ⟨ret_int HH.out.symm, HB2.out⟩
   ·have qo : (sc == own) = false := by simpa using ho
    rw [qo, Bool.false_or] at h1
    by_cases hs : sc = -1
    ·rw [if_pos hs] at h2
     have H1 : Hid (hasF own t (a + 1) m = hasF own t (a + 1 + (j + 1)) (m - (j + 1)) ∧ othF t (a + 1) m (-1) = othF t (a + 1 + (j + 1)) (m - (j + 1)) q) := ⟨by rw [er]; exact h1, by rw [er]; exact h2⟩
     subst hs
     clear h1 h2 ho
     go_wp2_with fail
     refine (HS.out _).mono ?_
     rintro ev wx ⟨rfl, hx⟩
     have hx' := hx.symm
     subst hx'
     go_wp2_with fail
     refine (HS.out _).mono ?_
     rintro ev wx ⟨rfl, hx⟩
     have hx' := hx.symm
     subst hx'
     go_wp2
     go_roundg (m - (j + 1))
     case measure => omega
     case rel => exact ⟨j + 1, q, by omega, rfl, rfl, by go_num, rfl, H1.out.1, H1.out.2⟩
    ·rw [if_neg hs] at h2
     have H1 : Hid (hasF own t (a + 1) m = hasF own t (a + 1 + (j + 1)) (m - (j + 1)) ∧ othF t (a + 1) m (-1) = othF t (a + 1 + (j + 1)) (m - (j + 1)) sc) := ⟨by rw [er]; exact h1, by rw [er]; exact h2⟩
     have qs : (sc != -1) = true := by simpa using hs
     clear h1 h2 ho hs
     go_wp2_with fail
     refine (HS.out _).mono ?_
     rintro ev wx ⟨rfl, hx⟩
     have hx' := hx.symm
     subst hx'
     go_wp2_with fail
     refine (HS.out _).mono ?_
     rintro ev wx ⟨rfl, hx⟩
     have hx' := hx.symm
     subst hx'
     go_wp2_with fail
     refine (HS.out _).mono ?_
     rintro ev wx ⟨rfl, hx⟩
     have hx' := hx.symm
     subst hx'
     go_wp2
     go_roundg (m - (j + 1))
     case measure => omega
     case rel => exact ⟨j + 1, sc, by omega, rfl, rfl, by go_num, rfl, H1.out.1, H1.out.2⟩
  ·have hjm : ¬ (j : Int) < (m : Int) := by omega
   have hz : m - j = 0 := by omega
   rw [hz] at h1 h2
   have h1' : hasF own t (a + 1) m = false := h1
   have h2' : othF t (a + 1) m (-1) = q := h2
   have HH : Hid (P = if q ≠ -1 ∧ lastF sos t a ≠ q then own else q) := by
    show _ = _
    rw [HP.out, h1', h2', if_neg (by decide)]
   have HA2 : Hid (Calls Tryz.prog 250 #[.pointer (some ⟨sb, 0, none⟩), .int .i64 a] W2 fun e w' => e = .returned (.int .i64 (lastF sos t a)) ∧ w' = W2) := HA.out W2 HB2.out
   clear h1 h2 h1' h2' hz
   generalize lastF sos t a = la at *
   by_cases hq : q = -1
   ·have e : P = -1 := by rw [HH.out, if_neg (fun h => h.1 hq), hq]
    subst hq
    subst e
    go_wp2
    go_ret
    exact ⟨rfl, HB2.out⟩
   ·have qq : (q != -1) = true := by simpa using hq
    by_cases hl : la = q
    ·have e : P = q := by rw [HH.out, if_neg (fun h => h.2 hl)]
     have ql : (la != q) = false := by simp [hl]
     have HE : Hid (P = q) := e
     clear hl e hq
     go_wp2_with fail
     refine HA2.out.mono ?_
     rintro ev wx ⟨rfl, hx⟩
     have hx' := hx.symm
     subst hx'
     go_wp2
     go_ret
     exact ⟨ret_int HE.out.symm, HB2.out⟩
    ·have e : P = own := by rw [HH.out, if_pos ⟨hq, hl⟩]
     have ql : (la != q) = true := by simpa using hl
     have HE : Hid (P = own) := e
     clear hl e hq
     go_wp2_with fail
     refine HA2.out.mono ?_
     rintro ev wx ⟨rfl, hx⟩
     have hx' := hx.symm
     subst hx'
     go_wp2
     go_ret
     exact ⟨ret_int HE.out.symm, HB2.out⟩
end Go.Proofs.YtkbinfhclaafhaaGreatDoor
namespace Go.Proofs.YtkbinfhclaafhaaGreatDoor
open Go.RowKit
theorem IsPairs.few {t rs : List Int} {ps : List (Nat × Nat)} (h : IsPairs t rs ps) : ps.length ≤ t.length := by
 unfold IsPairs at h
 cases hp : pairF t rs t.length 0 ([], []) with
 | none => rw [hp] at h; simp only at h; rw [h]; simp
 | some out =>
  rw [hp] at h
  have := pairF_len _ _ _ _ PairOk.start hp
  rw [h.1.length_eq]; omega
def n0P (t orig : List Int) (ps : List (Nat × Nat)) (own sos : Int) : List Int := ps.foldl (fun t p => pairedP t orig p own sos) t
theorem asGrown {w w' : World} {r : Option Nat} (h : Below w.heap.size w w') : w.grownBy w' r := ⟨h.os, h.tape, h.output, h.size, fun k hk _ => h.block k hk⟩
theorem cell_grown {w w' : World} {r : Option Nat} (hg : w.grownBy w' r) {a : Addr} {v : Value} (h : w.cell? a = some v) (hne : some a.block ≠ r) : w'.cell? a = some v := by
 have hlt := World.block_lt_of_cell? w _ h
 simp only [World.cell?] at h ⊢
 rw [hg.block a.block hlt hne]
 exact h
theorem IntsAt.grown {w w' : World} {b off gc : Nat} {l : List Int} (h : IntsAt w b off l) (hg : w.grownBy w' (some gc)) (hne : b ≠ gc) : IntsAt w' b off l := fun i hi => cell_grown hg (h i hi) (fun e => hne (Option.some.inj e))
theorem PsAt.grown {w w' : World} {g gc : Nat} {ps : List (Nat × Nat)} (h : PsAt w g ps) (hg : w.grownBy w' (some gc)) (hne : g ≠ gc) : PsAt w' g ps := fun j hj =>
 ⟨cell_grown hg (h j hj).1 (fun e => hne (Option.some.inj e)), cell_grown hg (h j hj).2 (fun e => hne (Option.some.inj e))⟩
theorem PsAt.below {w w' : World} {g : Nat} {ps : List (Nat × Nat)} (h : PsAt w g ps) (hb : Below w.heap.size w w') : PsAt w' g ps := fun j hj =>
 ⟨cell_grown (r := none) (asGrown hb) (h j hj).1 (by simp), cell_grown (r := none) (asGrown hb) (h j hj).2 (by simp)⟩
theorem foldl_take_succ {α β : Type} (f : β → α → β) (b : β) (l : List α) (d : α) (j : Nat) (hj : j < l.length) : (l.take (j + 1)).foldl f b = f ((l.take j).foldl f b) (l.getD j d) := by
 rw [List.take_add_one, List.getElem?_eq_getElem hj, List.foldl_append, List.getD_eq_getElem?_getD, List.getElem?_eq_getElem hj]; rfl
set_option maxRecDepth 100000 in
set_option maxHeartbeats 8000000 in
theorem resBr_row (w : World) (B sb gc n cc gr cr gb cb : Nat) (pv : Value) (lev sos eos : Int) (t rs orig : List Int) (h : SqC w B sb gc n cc pv (.slice (some ⟨gr, 0, none⟩) n cr) (.slice (some ⟨gb, 0, none⟩) n cb) lev sos eos t) (hr : Ru32 w gr n rs) (ho : IntsAt w gb 0 orig) (hol : orig.length = n) (hgb : gb ≠ gc) (hbr : Br w) (hn : n ≤ 1000) (hlev : 0 ≤ lev) :
  Calls Tryz.prog 151 #[.pointer (some ⟨sb, 0, none⟩)] w fun e w' => e = .returned (.tuple #[]) ∧ SqC w' B sb gc n cc pv (.slice (some ⟨gr, 0, none⟩) n cr) (.slice (some ⟨gb, 0, none⟩) n cb) lev sos eos (n0P t orig (pairsL t rs) (lev % 2) sos) ∧ w.grownBy w' (some gc) := by
 have HPr : Hid (Calls Tryz.prog 211 #[.pointer (some ⟨sb, 0, none⟩)] w fun e w' => ∃ v ps, e = .returned v ∧ IsPairs t rs ps ∧ PsV w' w.heap.size v ps ∧ Below w.heap.size w w') := bpairs_row w B sb gc n cc gr cr pv (.slice (some ⟨gb, 0, none⟩) n cb) lev sos eos t rs h hr hbr hn
 have HS0 : Hid (∀ W, Below w.heap.size w W → SqC W B sb gc n cc pv (.slice (some ⟨gr, 0, none⟩) n cr) (.slice (some ⟨gb, 0, none⟩) n cb) lev sos eos t) := fun W hb => h.below hb
 have HO : Hid (∀ W, w.grownBy W (some gc) → IntsAt W gb 0 orig) := fun W hg => ho.grown hg hgb
 have HL : Hid (orig.length = n ∧ t.length = n) := ⟨hol, h.len⟩
 have hgc : gc < w.heap.size := (h.row.lt gc rfl).2
 clear h hr ho hol hbr
 go_enter Tryz.func151, Tryz.ntmps151
 go_wp2_with fail
 refine HPr.out.mono ?_
 rintro ev w1 ⟨v, ps, rfl, hI, hV, hb1⟩
 clear HPr
 have HOk : Hid (∀ p ∈ ps, p.1 < p.2 ∧ p.2 < n) := fun p hp => by have := hI.ok p hp; rw [HL.out.2] at this; exact this
 have HPs : Hid (ps = pairsL t rs) := hI.is
 have hpn : ps.length ≤ 1000 := by have := hI.few; rw [HL.out.2] at this; omega
 have hG1 : w.grownBy w1 (some gc) := (asGrown hb1)
 have hS1 := HS0.out w1 hb1
 clear HS0 hI hb1
 rcases hV with ⟨rfl, a, cp, rfl⟩ | ⟨g, cp, rfl, hBg, hgw, hA⟩
 ·have HS1 : Hid (SqC w1 B sb gc n cc pv (.slice (some ⟨gr, 0, none⟩) n cr) (.slice (some ⟨gb, 0, none⟩) n cb) lev sos eos t) := hS1
  have HG1 : Hid (w.grownBy w1 (some gc)) := hG1
  clear hS1 hG1 HOk hpn
  go_wp2
  go_loopg [8] 0 (fun gk iv W => gk = 0 ∧ iv = .int .i64 0 ∧ W = w1)
  case atStart => exact ⟨rfl, rfl, rfl⟩
  case round =>
   obtain ⟨rfl, rfl, rfl⟩ := hrel
   go_wp2
   go_end0
   exact ⟨rfl, by rw [← HPs.out]; exact HS1.out, HG1.out⟩
 ·have hggc : g ≠ gc := by omega
  have HS1 : Hid (SqC w1 B sb gc n cc pv (.slice (some ⟨gr, 0, none⟩) n cr) (.slice (some ⟨gb, 0, none⟩) n cb) lev sos eos t) := hS1
  have HG1 : Hid (w.grownBy w1 (some gc)) := hG1
  have HA1 : Hid (PsAt w1 g ps) := hA
  clear hS1 hG1 hA hBg hgw hgc
  obtain ⟨N, hN⟩ : ∃ N, N = ps.length := ⟨_, rfl⟩
  have HNl : Hid (ps.length = N) := hN.symm
  rw [← hN] at hpn ⊢
  clear hN
  go_wp2
  go_loopg [8] N (fun gk iv W => ∃ (j : Nat), j ≤ N ∧ gk = N - j ∧ iv = .int .i64 j ∧ SqC W B sb gc n cc pv (.slice (some ⟨gr, 0, none⟩) n cr) (.slice (some ⟨gb, 0, none⟩) n cb) lev sos eos (n0P t orig (ps.take j) (lev % 2) sos) ∧ w.grownBy W (some gc) ∧ PsAt W g ps)
  case atStart => exact ⟨0, by omega, rfl, rfl, HS1.out, HG1.out, HA1.out⟩
  case round =>
   clear HS1 HG1 HA1
   obtain ⟨j, hj, rfl, rfl, hS, hG, hA⟩ := hrel
   have HS : Hid (SqC wr B sb gc n cc pv (.slice (some ⟨gr, 0, none⟩) n cr) (.slice (some ⟨gb, 0, none⟩) n cb) lev sos eos (n0P t orig (ps.take j) (lev % 2) sos)) := hS
   have HG : Hid (w.grownBy wr (some gc)) := hG
   have HA : Hid (PsAt wr g ps) := hA
   by_cases hlt : j < N
   ·have hjl : j < ps.length := by rw [HNl.out]; exact hlt
    obtain ⟨p1, p2⟩ := hA j hjl
    obtain ⟨hab, hbn⟩ := HOk.out _ (getD_mem (d := (0, 0)) hjl)
    have hst := foldl_take_succ (fun t p => pairedP t orig p (lev % 2) sos) t ps (0, 0) j hjl
    have HSt : Hid (n0P t orig (ps.take (j + 1)) (lev % 2) sos = pairedP (n0P t orig (ps.take j) (lev % 2) sos) orig (ps.getD j (0, 0)) (lev % 2) sos) := hst
    have hjN : (j : Int) < (N : Int) := by omega
    clear hS hG hA hst
    generalize ps.getD j (0, 0) = p at *
    obtain ⟨a, b⟩ := p
    simp only at p1 p2 hab hbn
    generalize n0P t orig (ps.take j) (lev % 2) sos = t' at *
    have hb2 : Below wr.heap.size wr (wr.alloc (.cells #[.int .i64 a, .int .i64 b] 268)) := (Below.refl _ _).alloc (Nat.le_refl _) _
    have HSd : Hid (Calls Tryz.prog 212 #[.pointer (some ⟨sb, 0, none⟩), .agg #[.int .i64 a, .int .i64 b]] (wr.alloc (.cells #[.int .i64 a, .int .i64 b] 268)) fun e w' => e = .returned (.int .i64 (pairSideP t' (a, b) (lev % 2) sos)) ∧ Below (wr.alloc (.cells #[.int .i64 a, .int .i64 b] 268)).heap.size (wr.alloc (.cells #[.int .i64 a, .int .i64 b] 268)) w') := pairSide_any (wr.alloc (.cells #[.int .i64 a, .int .i64 b] 268)) B sb gc n cc pv (.slice (some ⟨gr, 0, none⟩) n cr) (.slice (some ⟨gb, 0, none⟩) n cb) lev sos eos t' (HS.out.below hb2) hn hlev a b hab hbn
    have HS2 : Hid (∀ W, Below (wr.alloc (.cells #[.int .i64 a, .int .i64 b] 268)).heap.size (wr.alloc (.cells #[.int .i64 a, .int .i64 b] 268)) W → SqC W B sb gc n cc pv (.slice (some ⟨gr, 0, none⟩) n cr) (.slice (some ⟨gb, 0, none⟩) n cb) lev sos eos t' ∧ w.grownBy W (some gc) ∧ PsAt W g ps ∧ W.cell? ⟨wr.heap.size, 0, none⟩ = some (.int .i64 a) ∧ W.cell? ⟨wr.heap.size, 1, none⟩ = some (.int .i64 b)) := fun W hb => by
     have hb3 : Below wr.heap.size wr W := hb2.trans (hb.mono hb2.size)
     have hc : (wr.alloc (.cells #[.int .i64 a, .int .i64 b] 268)).heap[wr.heap.size]? = some (.cells #[.int .i64 a, .int .i64 b] 268 (0, 0)) := Array.getElem?_push_size
     have hc' := heap_keep hb hc
     exact ⟨HS.out.below hb3, HG.out.trans (asGrown hb3), HA.out.below hb3, heap_cell hc' 0, heap_cell hc' 1⟩
    have hgz : gc ≠ wr.heap.size := by have := (HS.out.row.lt gc rfl).2; omega
    clear hb2
    obtain ⟨z, hz⟩ : ∃ z, z = wr.heap.size := ⟨_, rfl⟩
    go_wp2_with fail
    refine HSd.out.mono ?_
    rintro ev w3 ⟨rfl, hb3⟩
    obtain ⟨hS3, hG3, hA3, z0, z1⟩ := HS2.out w3 hb3
    have HS3 : Hid _ := hS3
    have HG3 : Hid _ := hG3
    have HA3 : Hid (PsAt w3 g ps) := hA3
    clear hb3 HSd HS2 hS3 hG3 hA3 p1 p2
    rw [← hz] at z0 z1 hgz ⊢
    have HZ : Hid (gc ≠ z) := hgz
    clear hz hgz
    by_cases hd : pairSideP t' (a, b) (lev % 2) sos = -1
    ·have HQ : Hid (pairedP t' orig (a, b) (lev % 2) sos = t') := by show _ = _; rw [pairedP, if_pos hd]
     rw [hd]
     clear hd
     go_wp2
     go_roundg (N - (j + 1))
     case measure => omega
     case rel => exact ⟨j + 1, by omega, rfl, by go_num, by rw [HSt.out, HQ.out]; exact HS3.out, HG3.out, HA3.out⟩
    ·have hd' : (pairSideP t' (a, b) (lev % 2) sos == -1) = false := by simpa using hd
     have HQ : Hid (pairedP t' orig (a, b) (lev % 2) sos = setBr orig (pairSideP t' (a, b) (lev % 2) sos) b (setBr orig (pairSideP t' (a, b) (lev % 2) sos) a t')) := by show _ = _; rw [pairedP, if_neg hd]
     clear hd
     generalize pairSideP t' (a, b) (lev % 2) sos = d at *
     have HB1 : Hid (Calls Tryz.prog 213 #[.pointer (some ⟨sb, 0, none⟩), .int .i64 a, .int .i64 d] w3 fun e w' => e = .returned (.tuple #[]) ∧ SqC w' B sb gc n cc pv (.slice (some ⟨gr, 0, none⟩) n cr) (.slice (some ⟨gb, 0, none⟩) n cb) lev sos eos (setBr orig d a t') ∧ w3.grownBy w' (some gc)) := setBr_row w3 B sb gc n cc gb cb pv (.slice (some ⟨gr, 0, none⟩) n cr) lev sos eos t' orig HS3.out (HO.out w3 HG3.out) HL.out.1 hgb hn a (by omega) d
     have HB2 : Hid (∀ W, w.grownBy W (some gc) → SqC W B sb gc n cc pv (.slice (some ⟨gr, 0, none⟩) n cr) (.slice (some ⟨gb, 0, none⟩) n cb) lev sos eos (setBr orig d a t') → Calls Tryz.prog 213 #[.pointer (some ⟨sb, 0, none⟩), .int .i64 b, .int .i64 d] W fun e w' => e = .returned (.tuple #[]) ∧ SqC w' B sb gc n cc pv (.slice (some ⟨gr, 0, none⟩) n cr) (.slice (some ⟨gb, 0, none⟩) n cb) lev sos eos (setBr orig d b (setBr orig d a t')) ∧ W.grownBy w' (some gc)) := fun W hg hS => setBr_row W B sb gc n cc gb cb pv (.slice (some ⟨gr, 0, none⟩) n cr) lev sos eos _ orig hS (HO.out W hg) HL.out.1 hgb hn b hbn d
     go_wp2_with fail
     refine HB1.out.mono ?_
     rintro ev w4 ⟨rfl, hS4, hg4⟩
     have HS4 : Hid _ := hS4
     have HG4 : Hid (w.grownBy w4 (some gc)) := HG3.out.trans hg4
     have HA4 : Hid (PsAt w4 g ps) := HA3.out.grown hg4 hggc
     have y1 : w4.cell? ⟨z, 1, none⟩ = some (.int .i64 b) := cell_grown hg4 z1 (fun e => HZ.out (Option.some.inj e).symm)
     clear hS4 hg4 HB1 z0 z1
     go_wp2_with fail
     refine (HB2.out w4 HG4.out HS4.out).mono ?_
     rintro ev w5 ⟨rfl, hS5, hg5⟩
     have HS5 : Hid _ := hS5
     have HG5 : Hid (w.grownBy w5 (some gc)) := HG4.out.trans hg5
     have HA5 : Hid (PsAt w5 g ps) := HA4.out.grown hg5 hggc
     clear hS5 hg5 HB2 y1
     go_wp2
     go_roundg (N - (j + 1))
     case measure => omega
     case rel => exact ⟨j + 1, by omega, rfl, by go_num, by rw [HSt.out, HQ.out]; exact HS5.out, HG5.out, HA5.out⟩
   ·obtain rfl : j = N := by omega
    have hjN : ¬ (j : Int) < (j : Int) := by omega
    have HX : Hid (SqC wr B sb gc n cc pv (.slice (some ⟨gr, 0, none⟩) n cr) (.slice (some ⟨gb, 0, none⟩) n cb) lev sos eos (n0P t orig ps (lev % 2) sos)) := by
     have := HS.out
     rw [List.take_of_length_le (by rw [HNl.out]; exact Nat.le_refl _)] at this
     exact this
    clear hS hG hA
    go_wp2
    go_end0
    exact ⟨rfl, by rw [← HPs.out]; exact HX.out, HG.out⟩
end Go.Proofs.YtkbinfhclaafhaaGreatDoor
namespace Go.Proofs.YtkbinfhclaafhaaGreatDoor
open Go.RowKit
structure NS (W : World) (B sb : Nat) (pv vr vc : Value) (lev : Int) (qr qc : List Int) : Prop where
 cell : W.heap[sb]? = some (.cells #[pv, vr, vc, .slice none 0 0, .int .i64 lev, .int .i64 0, .int .i64 0] 220 (0, 0))
 rr : W.ownsRow B 21 1 vr qr.length (rv32 qr)
 rc : W.ownsRow B 108 1 vc qc.length (iv qc)
 low : B ≤ sb
section
variable {W W' : World} {B sb : Nat} {pv vr vc v' : Value} {lev : Int} {qr qc : List Int}
theorem NS.below (h : NS W B sb pv vr vc lev qr qc) (hb : Below W.heap.size W W') : NS W' B sb pv vr vc lev qr qc := ⟨heap_keep hb h.cell, own_below h.rr hb, own_below h.rc hb, h.low⟩
theorem NS.pushR {y : Int} (h : NS W B sb pv vr vc lev qr qc) (hown : W'.ownsRow B 21 1 v' (qr.length + 1) (rv32 qr ++ [.int .i32 y])) (hg : W.grownBy W' vr.ownBlock) :
  NS (W'.setCell ⟨sb, 1, none⟩ v') B sb pv v' vc lev (qr ++ [y]) qc ∧ W'.cell? ⟨sb, 1, none⟩ = some vr ∧ W'.frozen? ⟨sb, 1, none⟩ = false := by
 have n1 := own_ne_cells h.rr h.cell (by decide)
 have hc : W'.heap[sb]? = _ := (hg.block sb (heap_lt h.cell) (fun e => n1 e.symm)).trans h.cell
 have ht : W'.ownsRow B 108 1 vc qc.length (iv qc) := own_grown h.rc hg (own_types h.rc h.rr (by decide))
 have n2 : v'.ownBlock ≠ some sb := own_ne_cells hown hc (by decide)
 have n3 : vc.ownBlock ≠ some sb := own_ne_cells ht hc (by decide)
 refine ⟨⟨by rw [Joins.block_setCell hc]; rfl, ?_, row_set ht n3 1 v', h.low⟩, heap_cell hc 1, heap_free hc 1⟩
 rw [List.length_append, rv32, List.map_append]
 exact row_set hown n2 1 v'
theorem NS.pushC {y : Int} (h : NS W B sb pv vr vc lev qr qc) (hown : W'.ownsRow B 108 1 v' (qc.length + 1) (iv qc ++ [.int .i64 y])) (hg : W.grownBy W' vc.ownBlock) :
  NS (W'.setCell ⟨sb, 2, none⟩ v') B sb pv vr v' lev qr (qc ++ [y]) ∧ W'.cell? ⟨sb, 2, none⟩ = some vc ∧ W'.frozen? ⟨sb, 2, none⟩ = false := by
 have n1 := own_ne_cells h.rc h.cell (by decide)
 have hc : W'.heap[sb]? = _ := (hg.block sb (heap_lt h.cell) (fun e => n1 e.symm)).trans h.cell
 have hr : W'.ownsRow B 21 1 vr qr.length (rv32 qr) := own_grown h.rr hg (own_types h.rr h.rc (by decide))
 have n2 : v'.ownBlock ≠ some sb := own_ne_cells hown hc (by decide)
 have n3 : vr.ownBlock ≠ some sb := own_ne_cells hr hc (by decide)
 refine ⟨⟨by rw [Joins.block_setCell hc]; rfl, row_set hr n3 2 v', ?_, h.low⟩, heap_cell hc 2, heap_free hc 2⟩
 rw [List.length_append, iv, List.map_append]
 exact row_set hown n2 2 v'
end
end Go.Proofs.YtkbinfhclaafhaaGreatDoor
namespace Go.Proofs.YtkbinfhclaafhaaGreatDoor
open Go.RowKit
set_option maxRecDepth 100000 in
set_option maxHeartbeats 4000000 in
theorem para_any (w : World) (lb gt gm n ct cm : Nat) (r c l : Value) (p : Int) (cs : List Int) (h : LnR w lb gt gm n ct cm r c l p cs) (hn : n ≤ 1000) (d : Int) :
  Calls Tryz.prog 141 #[.pointer (some ⟨lb, 0, none⟩), .int .i64 d] w fun e w' => e = .returned (.int .i64 (paraL cs d)) ∧ w' = w := by
 have c1 : w.cell? ⟨lb, 1, none⟩ = some (.slice (some ⟨gt, 0, none⟩) n ct) := heap_cell h.cell 1
 have HF : Hid (Calls Tryz.prog 199 #[.pointer (some ⟨lb, 0, none⟩), .int .i64 0, .int .i64 n] w fun e w' => e = .returned (.int .i64 (found cs)) ∧ w' = w) := by
  have := foundW_any w lb gt gm n ct cm r c l p cs h hn 0 n (n + 1) (Nat.le_refl _) (by omega) (by omega)
  rw [← h.len, pfF_found, ← foundF_more cs cs.length 0 (by omega)] at this
  rw [← h.len]
  exact this
 unfold paraL
 generalize found cs = fd at *
 clear h
 by_cases h0 : d = 0
 ·subst h0
  rw [if_pos (.inl rfl)]
  go_enter Tryz.func141, Tryz.ntmps141
  go_wp2
  go_ret
  exact ⟨rfl, rfl⟩
 ·have q0 : (d == 0) = false := by simpa using h0
  by_cases h1 : d = 1
  ·subst h1
   rw [if_pos (.inr rfl)]
   go_enter Tryz.func141, Tryz.ntmps141
   go_wp2
   go_ret
   exact ⟨rfl, rfl⟩
  ·rw [if_neg (by omega)]
   have q1 : (d == 1) = false := by simpa using h1
   go_enter Tryz.func141, Tryz.ntmps141
   go_wp2_with fail
   refine HF.out.mono ?_
   rintro ev wx ⟨rfl, hx⟩
   have hx' := hx.symm
   subst hx'
   go_wp2
   go_ret
   exact ⟨rfl, rfl⟩
end Go.Proofs.YtkbinfhclaafhaaGreatDoor
