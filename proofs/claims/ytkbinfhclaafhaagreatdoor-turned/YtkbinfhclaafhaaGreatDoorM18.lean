import Derived.Test.YtkbinfhclaafhaaGreatDoorM11
import Derived.Test.YtkbinfhclaafhaaGreatDoorM13
import Derived.Test.YtkbinfhclaafhaaGreatDoorM17
import Derived.Deep.RegionHeld3
import Derived.Deep.DrawnRows
import Derived.Maps.AppendAt
import Derived.ArgAppend
import Derived.Test.YtkbinfhclaafhaaGreatDoorM10
import Derived.Test.YtkbinfhclaafhaaGreatDoorM12
import Derived.Deep.RegionWith
namespace Go.Proofs.YtkbinfhclaafhaaGreatDoor
open Go.RowKit
attribute [local go_sem ↓] Go.wp_at_zero Go.wp_at_succ
def begE (g : Nat) (left : List Nat) (segs : List (Nat × Nat)) : List MapEntry := segs.zipIdx.map fun x => ⟨.int .i64 ((left.getD x.1.1 0 : Nat) : Int), segV g x.1, x.2⟩
theorem begE_snoc (g : Nat) (left : List Nat) (segs : List (Nat × Nat)) (ab : Nat × Nat) : begE g left (segs ++ [ab]) = begE g left segs ++ [⟨.int .i64 ((left.getD ab.1 0 : Nat) : Int), segV g ab, segs.length⟩] := by
 unfold begE
 rw [List.zipIdx_append, List.map_append]
 simp
theorem begE_key {g : Nat} {left : List Nat} {segs : List (Nat × Nat)} {m : MapEntry} (h : m ∈ begE g left segs) : ∃ ab ∈ segs, m.key = .int .i64 ((left.getD ab.1 0 : Nat) : Int) := by
 unfold begE at h
 obtain ⟨x, hx, rfl⟩ := List.mem_map.1 h
 exact ⟨x.1, List.fst_mem_of_mem_zipIdx hx, rfl⟩
theorem begE_get {g : Nat} {left : List Nat} {segs : List (Nat × Nat)} {m : MapEntry} {j : Nat} (h : (begE g left segs)[j]? = some m) : j < segs.length ∧ m.key = .int .i64 ((left.getD (segs.getD j (0, 0)).1 0 : Nat) : Int) ∧ m.val = segV g (segs.getD j (0, 0)) := by
 unfold begE at h
 rw [List.getElem?_map, List.getElem?_zipIdx] at h
 rcases Nat.lt_or_ge j segs.length with hj | hj
 ·rw [List.getElem?_eq_getElem hj] at h
  have e : segs.getD j (0, 0) = segs[j] := by rw [List.getD_eq_getElem?_getD, List.getElem?_eq_getElem hj]; rfl
  simp only [Option.map_some, Option.some.injEq, Nat.zero_add] at h
  subst h
  rw [e]
  exact ⟨hj, rfl, rfl⟩
 ·rw [List.getElem?_eq_none hj] at h; cases h
theorem begE_all {g : Nat} {left : List Nat} {segs : List (Nat × Nat)} {j : Nat} (hj : j < segs.length) : ∃ m ∈ begE g left segs, m.key = .int .i64 ((left.getD (segs.getD j (0, 0)).1 0 : Nat) : Int) := by
 refine ⟨⟨.int .i64 ((left.getD (segs.getD j (0, 0)).1 0 : Nat) : Int), segV g (segs.getD j (0, 0)), j⟩, ?_, rfl⟩
 unfold begE
 refine List.mem_map.2 ⟨(segs.getD j (0, 0), j), ?_, rfl⟩
 rw [List.mem_zipIdx_iff_getElem?, List.getD_eq_getElem?_getD, List.getElem?_eq_getElem hj]
 rfl
def runV (g : Nat) (segs : List (Nat × Nat)) : Option Nat → Value
 | some k => segV g (segs.getD k (0, 0))
 | none => .slice none 0 0
theorem segL_head {left : List Nat} {ab : Nat × Nat} (h : ab.1 < ab.2 ∧ ab.2 ≤ left.length) : (segL left ab).headD 0 = left.getD ab.1 0 ∧ segL left ab ≠ [] ∧ (segL left ab).length = ab.2 - ab.1 := seg_head h.1 h.2
theorem getD_map_seg (left : List Nat) (segs : List (Nat × Nat)) (k : Nat) (hk : k < segs.length) : (segs.map (segL left)).getD k [] = segL left (segs.getD k (0, 0)) := by
 rw [List.getD_eq_getElem?_getD, List.getElem?_map, List.getD_eq_getElem?_getD, List.getElem?_eq_getElem hk]; rfl
theorem heads_inj {n : Nat} {rs : List (List Nat)} (h : RunsOk n rs) {i j : Nat} (hi : i < rs.length) (hj : j < rs.length) (he : (rs.getD i []).headD 0 = (rs.getD j []).headD 0) : i = j := by
 have h1 := head_mem (h.ne _ (getD_mem (d := []) hi))
 have h2 := head_mem (h.ne _ (getD_mem (d := []) hj))
 rw [he] at h1
 exact flat_one h.nod h1 h2
theorem und_beg : Tryz.prog.underlying 217 = some (.map 3 31) := by kernel_rfl
set_option maxRecDepth 100000 in
theorem beg_look {w : World} {mb g n : Nat} {left : List Nat} {segs : List (Nat × Nat)} {cs : List Int} (hm : w.heap[mb]? = some (.map (begE g left segs).toArray segs.length)) (hok : ∀ ab ∈ segs, ab.1 < ab.2 ∧ ab.2 ≤ left.length) (hR : RunsOk n (segs.map (segL left))) (hcn : cs.length = n) (last : Nat) :
  (Instr.lookup 217 (.map (some mb)) (.int .i64 (nbP cs last)) false).run Tryz.prog w = .ok (runV g segs (nextRun cs (segs.map (segL left)) last)) w := by
 have hz : (zeroValue 31).run Tryz.prog w = .ok (.slice none 0 0) w := by kernel_rfl
 have hkeys : ∀ m ∈ (begE g left segs).toArray.toList, ∃ x, m.key = .int .i64 x := fun m hm => by
  obtain ⟨ab, _, h⟩ := begE_key (by simpa using hm)
  exact ⟨_, h⟩
 have hhd : ∀ k, k < segs.length → ((segs.map (segL left)).getD k []).headD 0 = left.getD (segs.getD k (0, 0)).1 0 := fun k hk => by
  rw [getD_map_seg _ _ _ hk]
  exact (segL_head (hok _ (getD_mem hk))).1
 rcases run_findKey_ints Tryz.underlying3 w (nbP cs last) (begE g left segs).toArray.toList hkeys with ⟨h1, h2⟩ | ⟨j, m, h1, h2, h3⟩
 ·rw [run_look_none false und_beg hz hm (fun em => run_check_int Tryz.underlying3 w _ em) h1]
  have : nextRun cs (segs.map (segL left)) last = none := by
   unfold nextRun
   split
   ·rename_i hiso
    cases hk : nextK (segs.map (segL left)) (mt cs last) (segs.map (segL left)).length with
    | none => rfl
    | some k =>
     exfalso
     obtain ⟨hkl, hke⟩ := nextK_some _ _ hk
     rw [List.length_map] at hkl
     rw [hhd k hkl] at hke
     obtain ⟨m, hm1, hm2⟩ := begE_all (g := g) (left := left) hkl
     refine h2 m (by simpa using hm1) ?_
     rw [hm2, hke, nbP, if_pos hiso, if_pos]
     have hm3 : mt cs last ∈ segL left (segs.getD k (0, 0)) := by
      have := head_mem (segL_head (hok _ (getD_mem (d := (0, 0)) hkl))).2.1
      rw [(segL_head (hok _ (getD_mem (d := (0, 0)) hkl))).1, hke] at this
      exact this
     rw [hcn]
     exact hR.lt _ (List.mem_map.2 ⟨_, getD_mem (d := (0, 0)) hkl, rfl⟩) _ hm3
   ·rfl
  rw [this]; rfl
 ·rw [run_look_some false und_beg hm (fun em => run_check_int Tryz.underlying3 w _ em) h1]
  obtain ⟨hj, hk, hv⟩ := begE_get (by simpa using h2)
  rw [hk] at h3
  have h4 : ((left.getD (segs.getD j (0, 0)).1 0 : Nat) : Int) = nbP cs last := by injection h3
  have hiso : isoB (cs.getD last 0) = true := by
   by_cases h : isoB (cs.getD last 0) = true
   ·exact h
   ·rw [nbP, if_neg h] at h4; omega
  rw [nbP, if_pos hiso] at h4
  have hmt : mt cs last < cs.length := by
   by_cases h : mt cs last < cs.length
   ·exact h
   ·rw [if_neg h] at h4; omega
  rw [if_pos hmt] at h4
  have h5 : left.getD (segs.getD j (0, 0)).1 0 = mt cs last := by omega
  have : nextRun cs (segs.map (segL left)) last = some j := by
   unfold nextRun
   rw [if_pos hiso]
   cases hk : nextK (segs.map (segL left)) (mt cs last) (segs.map (segL left)).length with
   | none =>
    exfalso
    refine nextK_none _ hk j (by rw [List.length_map]; exact hj) ?_
    rw [hhd j hj, h5]
   | some k =>
    obtain ⟨hkl, hke⟩ := nextK_some _ _ hk
    congr 1
    refine heads_inj hR hkl (by rw [List.length_map]; exact hj) ?_
    rw [hke, hhd j hj, h5]
  rw [this, hv]; rfl
set_option maxRecDepth 100000 in
theorem beg_store {w : World} {mb g n : Nat} {left : List Nat} {segs : List (Nat × Nat)} {k : Nat} (hk : k < segs.length) (hm : w.heap[mb]? = some (.map (begE g left (segs.take k)).toArray k)) (hok : ∀ ab ∈ segs, ab.1 < ab.2 ∧ ab.2 ≤ left.length) (hR : RunsOk n (segs.map (segL left))) :
  (Instr.mapUpdate 217 (.map (some mb)) (.int .i64 ((left.getD (segs.getD k (0, 0)).1 0 : Nat) : Int)) (segV g (segs.getD k (0, 0)))).run Tryz.prog w = .ok () (ChangeMaps.setBlock w mb (.map (begE g left (segs.take (k + 1))).toArray (k + 1))) := by
 have hkeys : ∀ m ∈ (begE g left (segs.take k)).toArray.toList, ∃ x, m.key = .int .i64 x := fun m hm => by
  obtain ⟨ab, _, h⟩ := begE_key (by simpa using hm)
  exact ⟨_, h⟩
 rcases run_findKey_ints Tryz.underlying3 w ((left.getD (segs.getD k (0, 0)).1 0 : Nat) : Int) (begE g left (segs.take k)).toArray.toList hkeys with ⟨h1, h2⟩ | ⟨j, m, h1, h2, h3⟩
 ·have e := run_store_new (val := segV g (segs.getD k (0, 0))) und_beg hm (run_check_int Tryz.underlying3 w _ false) h1
  rw [e]
  have e2 : segs.take (k + 1) = segs.take k ++ [segs.getD k (0, 0)] := by
   rw [List.take_add_one, List.getElem?_eq_getElem hk, List.getD_eq_getElem?_getD, List.getElem?_eq_getElem hk]; rfl
  rw [e2, begE_snoc, List.length_take, Nat.min_eq_left (Nat.le_of_lt hk)]
  simp
 ·exfalso
  obtain ⟨hj, hkk, _⟩ := begE_get (by simpa using h2)
  rw [List.length_take] at hj
  have hjk : j < k := by omega
  have hjs : j < segs.length := by omega
  rw [hkk] at h3
  have e1 : (segs.take k).getD j (0, 0) = segs.getD j (0, 0) := by
   rw [List.getD_eq_getElem?_getD, List.getElem?_take_of_lt hjk, ← List.getD_eq_getElem?_getD]
  rw [e1] at h3
  have h4 : ((left.getD (segs.getD j (0, 0)).1 0 : Nat) : Int) = ((left.getD (segs.getD k (0, 0)).1 0 : Nat) : Int) := by injection h3
  have := heads_inj hR (i := j) (j := k) (by rw [List.length_map]; exact hjs) (by rw [List.length_map]; exact hk) (by
   rw [getD_map_seg _ _ _ hjs, getD_map_seg _ _ _ hk, (segL_head (hok _ (getD_mem hjs))).1, (segL_head (hok _ (getD_mem hk))).1]; omega)
  omega
set_option maxRecDepth 100000 in
set_option maxHeartbeats 8000000 in
theorem runNext_any (W : World) (L : LP) (ks ls : List Int) (h : LX W L ks ls) (lx mx mb g gp op m cp last : Nat) (left : List Nat) (segs : List (Nat × Nat)) (hl : W.cell? ⟨lx, 0, none⟩ = some (.pointer (some ⟨L.lb, 0, none⟩))) (hmx : W.cell? ⟨mx, 0, none⟩ = some (.map (some mb))) (hm : W.heap[mb]? = some (.map (begE g left segs).toArray segs.length)) (hok : ∀ ab ∈ segs, ab.1 < ab.2 ∧ ab.2 ≤ left.length) (hR : RunsOk L.n (segs.map (segL left)))
  (hm0 : 0 < m) (hm1 : m ≤ 1000) (hla : W.cell? ⟨gp, op + (m - 1), none⟩ = some (.int .i64 ((last : Nat) : Int))) (hlast : last < L.n) :
  Calls Tryz.prog 155 #[.slice (some ⟨gp, op, none⟩) m cp, .pointer (some ⟨mx, 0, none⟩), .pointer (some ⟨lx, 0, none⟩)] W fun e w' => e = .returned (runV g segs (nextRun L.cs (segs.map (segL left)) last)) ∧ Below W.heap.size W w' := by
 have hlk := beg_look (w := W) hm hok hR h.len last
 have HN : Hid (∀ W', Below W.heap.size W W' → Calls Tryz.prog 156 #[.pointer (some ⟨L.lb, 0, none⟩), .int .i64 last] W' fun e w' => e = .returned (.int .i64 (nbP L.cs last)) ∧ w' = W') := fun W' hb => nextBeg_any W' L ks ls (h.below hb) last hlast
 have hlk2 : (Instr.lookup 217 (.map (some mb)) (.int .i64 (nbP L.cs last)) false).run Tryz.prog W.drew = .ok (runV g segs (nextRun L.cs (segs.map (segL left)) last)) W.drew := beg_look (w := W.drew) hm hok hR h.len last
 clear h hm hok hR hlk
 generalize nbP L.cs last = nb at *
 generalize runV g segs (nextRun L.cs (segs.map (segL left)) last) = nv at *
 have hj1 : (1 : Int) ≤ (m : Int) := by omega
 have hj2 : (0 : Int) ≤ (m : Int) - 1 := by omega
 have hj3 : (m : Int) - 1 < (m : Int) := by omega
 have hj4 : (m : Int) ≤ (m : Int) := by omega
 have hj5 : (0 : Int) < (m : Int) := by omega
 have hw : IntKind.i64.wrap ((m : Int) - 1) = (m : Int) - 1 := IntWalk.i64_in _ ⟨by omega, by omega⟩
 go_enter Tryz.func155, Tryz.ntmps155
 go_wp2
 go_region_held3 (fun w' => w'.cell? ⟨mx, 0, none⟩ = some (.map (some mb)) ∧ w'.cell? ⟨lx, 0, none⟩ = some (.pointer (some ⟨L.lb, 0, none⟩)) ∧ w'.cell? ⟨gp, op + (m - 1), none⟩ = some (.int .i64 ((last : Nat) : Int))) (go_keep)
  (first | (go_at_call 156; refine (HN.out _ (Below.refl _ _).drew).mono ?_; rintro ev wx ⟨rfl, rfl⟩))
 all_goals
  go_wp2
  go_ret
  exact ⟨rfl, (Below.refl _ _).drew⟩
end Go.Proofs.YtkbinfhclaafhaaGreatDoor
namespace Go.Proofs.YtkbinfhclaafhaaGreatDoor
open Go.RowKit
structure SqD where
 sb : Nat
 gr : Nat
 cr : Nat
 gc : Nat
 cc : Nat
 gb : Nat
 gp : Nat
 op : Nat
 cp : Nat
 m : Nat
 at' : List Nat
def SqD.ptr (q : SqD) : Value := .pointer (some ⟨q.sb, 0, none⟩)
structure SeqOk (W : World) (B : Nat) (L : LP) (ks ls : List Int) (q : SqD) : Prop where
 sq : SqC W B q.sb q.gc q.m q.cc (.slice (some ⟨q.gp, q.op, none⟩) q.m q.cp) (.slice (some ⟨q.gr, 0, none⟩) q.m q.cr) (.slice (some ⟨q.gb, 0, none⟩) q.m q.m) (ls.getD (q.at'.headD 0) 0) (sideS (ls.getD (q.at'.headD 0) 0) (befF ls (xLeft L.cs) L.p (q.at'.headD 0))) (sideS (ls.getD (q.at'.headD 0) 0) (behS L.cs ls (xLeft L.cs) L.p (q.at'.getLastD 0))) (gath ks q.at')
 ru : W.ownsRow B 21 1 (.slice (some ⟨q.gr, 0, none⟩) q.m q.cr) q.m (rv32 (gath L.rs q.at'))
 be : RowAt W B 108 q.gb q.m (iv (gath ks q.at'))
 pl : IntsAt W q.gp q.op (nl q.at')
 ty : ∃ cs fr, W.heap[q.gp]? = some (.cells cs 3 fr)
 lo : B ≤ q.gp ∧ B ≤ q.sb
 ne : q.gb ≠ q.gc
 len : q.at'.length = q.m
 pos : 0 < q.m
section
variable {W W' : World} {B : Nat} {L : LP} {ks ls : List Int} {q : SqD}
theorem own_lowB {w : World} {B B' : Nat} {e : TypeId} {z n : Nat} {v : Value} {xs : List Value} (h : w.ownsRow B e z v n xs) (hb : B' ≤ B) : w.ownsRow B' e z v n xs := by
 refine ⟨h.1, ?_⟩
 rcases h.2 with h | ⟨g, cap, cur, h1, h2, h3⟩
 ·exact .inl h
 ·exact .inr ⟨g, cap, cur, h1, Nat.le_trans hb h2, h3⟩
theorem SeqOk.base {B' : Nat} (h : SeqOk W B L ks ls q) (hb : B' ≤ B) : SeqOk W B' L ks ls q :=
 ⟨⟨h.sq.cell, own_lowB h.sq.row hb⟩, own_lowB h.ru hb, own_lowB h.be hb, h.pl, h.ty, ⟨Nat.le_trans hb h.lo.1, Nat.le_trans hb h.lo.2⟩, h.ne, h.len, h.pos⟩
theorem SeqOk.below (h : SeqOk W B L ks ls q) (hb : Below W.heap.size W W') : SeqOk W' B L ks ls q := by
 obtain ⟨cs, fr, hty⟩ := h.ty
 exact ⟨h.sq.below hb, own_below h.ru hb, own_below h.be hb, h.pl.below hb, ⟨cs, fr, heap_keep hb hty⟩, h.lo, h.ne, h.len, h.pos⟩
theorem SeqOk.grown {r : Nat} (h : SeqOk W B L ks ls q) (hg : W.grownBy W' (some r)) (h1 : q.sb ≠ r) (h2 : q.gc ≠ r) (h3 : q.gr ≠ r) (h4 : q.gb ≠ r) (h5 : q.gp ≠ r) : SeqOk W' B L ks ls q := by
 obtain ⟨cs, fr, hty⟩ := h.ty
 exact ⟨⟨(hg.block q.sb (heap_lt h.sq.cell) (fun e => h1 (Option.some.inj e))).trans h.sq.cell, own_grown2 h.sq.row hg h2⟩, own_grown2 h.ru hg h3, own_grown2 h.be hg h4, h.pl.grown hg h5, ⟨cs, fr, (hg.block q.gp (heap_lt hty) (fun e => h5 (Option.some.inj e))).trans hty⟩, h.lo, h.ne, h.len, h.pos⟩
end
def Apart (q q' : SqD) : Prop := q.gc ≠ q'.gc ∧ q.gb ≠ q'.gc ∧ q.gc ≠ q'.gb
structure SeqsOk (W : World) (B : Nat) (L : LP) (ks ls : List Int) (av : Value) (qs : List SqD) : Prop where
 row : W.ownsRow B 146 1 av qs.length (qs.map SqD.ptr)
 all : ∀ q ∈ qs, SeqOk W B L ks ls q
 ap : qs.Pairwise Apart
theorem heap_of_own {w : World} {B g n c z : Nat} {e : TypeId} {xs : List Value} (h : w.ownsRow B e z (.slice (some ⟨g, 0, none⟩) n c) n xs) : ∃ cur, w.heap[g]? = some (.cells cur e (0, 0)) := by
 rcases h.2 with ⟨e1, _⟩ | ⟨g', cap, cur, e1, _, hh, _⟩
 ·cases e1
 ·injection e1 with e2
  injection e2 with e3
  injection e3 with e4
  subst e4
  exact ⟨cur, hh⟩
section
variable {W W' : World} {B : Nat} {L : LP} {ks ls : List Int} {av av' : Value} {qs : List SqD} {q : SqD}
theorem SeqsOk.below (h : SeqsOk W B L ks ls av qs) (hb : Below W.heap.size W W') : SeqsOk W' B L ks ls av qs := ⟨own_below h.row hb, fun q hq => (h.all q hq).below hb, h.ap⟩
theorem cells_type {w : World} {k : Nat} {a b : Array Value} {s t : TypeId} {f g : Nat × Nat} (h : w.heap[k]? = some (.cells a s f)) (h' : w.heap[k]? = some (.cells b t g)) : s = t := by
 rw [h] at h'
 injection h' with h'
 injection h'
theorem SeqsOk.push (h : SeqsOk W B L ks ls av qs) (hq : SeqOk W B L ks ls q) (hap : ∀ q' ∈ qs, Apart q' q) (hown : W'.ownsRow B 146 1 av' (qs.length + 1) (qs.map SqD.ptr ++ [q.ptr])) (hg : W.grownBy W' av.ownBlock) : SeqsOk W' B L ks ls av' (qs ++ [q]) := by
 have key : ∀ x, SeqOk W B L ks ls x → SeqOk W' B L ks ls x := fun x hx => by
  rcases h.row.2 with ⟨rfl, _⟩ | ⟨g, cp, cur, rfl, _, hh, _⟩
  ·exact hx.below ⟨hg.os, hg.tape, hg.output, hg.size, fun k hk => hg.block k hk (by simp [Value.ownBlock])⟩
  ·have hg' : W.grownBy W' (some g) := hg
   obtain ⟨c2, e2⟩ := heap_of_own hx.sq.row
   obtain ⟨c3, e3⟩ := heap_of_own hx.ru
   obtain ⟨c4, e4⟩ := heap_of_own hx.be
   obtain ⟨c5, fr, e5⟩ := hx.ty
   refine hx.grown hg' ?_ ?_ ?_ ?_ ?_
   ·rintro rfl; exact absurd (cells_type hx.sq.cell hh) (by decide)
   ·rintro rfl; exact absurd (cells_type e2 hh) (by decide)
   ·rintro rfl; exact absurd (cells_type e3 hh) (by decide)
   ·rintro rfl; exact absurd (cells_type e4 hh) (by decide)
   ·rintro rfl; exact absurd (cells_type e5 hh) (by decide)
 refine ⟨by rw [List.length_append, List.map_append]; exact hown, ?_, ?_⟩
 ·intro x hx
  rcases List.mem_append.1 hx with hx | hx
  ·exact key x (h.all x hx)
  ·rw [List.mem_singleton.1 hx]; exact key q hq
 ·rw [List.pairwise_append]
  exact ⟨h.ap, List.pairwise_singleton _ _, fun a ha b hb => by rw [List.mem_singleton.1 hb]; exact hap a ha⟩
end
structure PlA (W : World) (B Bi gp op m cp : Nat) (at' : List Nat) : Prop where
 pl : IntsAt W gp op (nl at')
 ty : ∃ cs fr, W.heap[gp]? = some (.cells cs 3 fr)
 lo : B ≤ gp
 len : at'.length = m
 fo : cp = m ∨ (op = 0 ∧ W.ownsRow Bi 3 1 (.slice (some ⟨gp, 0, none⟩) m cp) m (iv (nl at')))
theorem PlA.below {W W' : World} {B Bi gp op m cp : Nat} {at' : List Nat} (h : PlA W B Bi gp op m cp at') (hb : Below W.heap.size W W') : PlA W' B Bi gp op m cp at' := by
 obtain ⟨cs, fr, hty⟩ := h.ty
 refine ⟨h.pl.below hb, ⟨cs, fr, heap_keep hb hty⟩, h.lo, h.len, ?_⟩
 rcases h.fo with h1 | ⟨h1, h2⟩
 ·exact .inl h1
 ·exact .inr ⟨h1, own_below h2 hb⟩
theorem PlA.own {W : World} {B Bi g n c : Nat} {at' : List Nat} (h : W.ownsRow Bi 3 1 (.slice (some ⟨g, 0, none⟩) n c) n (iv (nl at'))) (hB : B ≤ Bi) : PlA W B Bi g 0 n c at' := by
 obtain ⟨cur, hh⟩ := heap_of_own h
 refine ⟨fun k hk => by rw [Nat.zero_add]; exact own_icell h k hk, ⟨cur, _, hh⟩, Nat.le_trans hB (h.lt g rfl).1, ?_, .inr ⟨rfl, h⟩⟩
 have := h.1
 simpa [iv, nl] using this
theorem gath_nl_len (l : List Int) (at' : List Nat) : (gath l at').length = at'.length := by simp [gath]
end Go.Proofs.YtkbinfhclaafhaaGreatDoor
namespace Go.Proofs.YtkbinfhclaafhaaGreatDoor
open Go.RowKit
attribute [local go_sem ↓] Go.wp_at_zero Go.wp_at_succ
theorem setBlock_grown (W : World) (mb : Nat) (o : Obj) : W.grownBy (ChangeMaps.setBlock W mb o) (some mb) := ⟨rfl, rfl, rfl, by simp [ChangeMaps.setBlock], fun k _ hne => by simp [ChangeMaps.setBlock, Array.getElem?_setIfInBounds_ne (show mb ≠ k from fun e => hne (by rw [e]))]⟩
theorem cell_not_map {W : World} {a : Addr} {v : Value} {mb c : Nat} {es : Array MapEntry} (h : W.cell? a = some v) (hm : W.heap[mb]? = some (.map es c)) : a.block ≠ mb := by
 intro e
 simp [World.cell?, e, hm] at h
theorem RunsAt.below {w w' : World} {B g : Nat} {v : Value} {left : List Nat} {segs : List (Nat × Nat)} (h : RunsAt w B v g left segs) (hb : Below w.heap.size w w') : RunsAt w' B v g left segs :=
 ⟨own_below h.row hb, h.lf.below hb, h.ok, fun hn => ⟨(h.lt hn).1, Nat.lt_of_lt_of_le (h.lt hn).2 hb.size⟩, fun hn => by obtain ⟨cs, hc⟩ := h.ty hn; exact ⟨cs, heap_keep hb hc⟩⟩
structure SE (W : World) (B lx mx mb g : Nat) (L : LP) (rv : Value) (left : List Nat) (segs : List (Nat × Nat)) (k : Nat) : Prop where
 lh : W.heap[lx]? = some (.cells #[.pointer (some ⟨L.lb, 0, none⟩)] 136 (0, 0))
 mh : W.heap[mx]? = some (.cells #[.map (some mb)] 217 (0, 0))
 mp : W.heap[mb]? = some (.map (begE g left (segs.take k)).toArray k)
 r : RunsAt W B rv g left segs
section
variable {W W' : World} {B lx mx mb g k : Nat} {L : LP} {rv : Value} {left : List Nat} {segs : List (Nat × Nat)}
theorem SE.l (h : SE W B lx mx mb g L rv left segs k) : W.cell? ⟨lx, 0, none⟩ = some (.pointer (some ⟨L.lb, 0, none⟩)) := heap_cell h.lh 0
theorem SE.m (h : SE W B lx mx mb g L rv left segs k) : W.cell? ⟨mx, 0, none⟩ = some (.map (some mb)) := heap_cell h.mh 0
theorem SE.below (h : SE W B lx mx mb g L rv left segs k) (hb : Below W.heap.size W W') : SE W' B lx mx mb g L rv left segs k :=
 ⟨heap_keep hb h.lh, heap_keep hb h.mh, heap_keep hb h.mp, h.r.below hb⟩
theorem SE.store (h : SE W B lx mx mb g L rv left segs k) : SE (ChangeMaps.setBlock W mb (.map (begE g left (segs.take (k + 1))).toArray (k + 1))) B lx mx mb g L rv left segs (k + 1) := by
 have hg := setBlock_grown W mb (.map (begE g left (segs.take (k + 1))).toArray (k + 1))
 have n1 := cell_not_map h.l h.mp
 have n2 := cell_not_map h.m h.mp
 refine ⟨(hg.block lx (heap_lt h.lh) (fun e => n1 (Option.some.inj e))).trans h.lh, (hg.block mx (heap_lt h.mh) (fun e => n2 (Option.some.inj e))).trans h.mh, setBlock_same h.mp, ?_⟩
 have n3 : ∀ hn : left ≠ [], g ≠ mb := fun hn e => by
  obtain ⟨cs, hc⟩ := h.r.ty hn
  rw [e, h.mp] at hc
  cases hc
 refine ⟨own_grown h.r.row hg (.inr (own_ne_map h.r.row h.mp)), fun i hi => cell_grown hg (h.r.lf i hi) (fun e => cell_not_map (h.r.lf i hi) h.mp (Option.some.inj e)), h.r.ok, fun hn => ⟨(h.r.lt hn).1, Nat.lt_of_lt_of_le (h.r.lt hn).2 hg.size⟩, fun hn => ?_⟩
 obtain ⟨cs, hc⟩ := h.r.ty hn
 exact ⟨cs, (hg.block g (heap_lt hc) (fun e => n3 hn (Option.some.inj e))).trans hc⟩
end
theorem SE.app {W W' : World} {B lx mx mb g k : Nat} {L : LP} {rv : Value} {left : List Nat} {segs : List (Nat × Nat)} {B' n : Nat} {av : Value} {xs : List Value} (h : SE W B lx mx mb g L rv left segs k) (hrow : W.ownsRow B' 146 1 av n xs) (hg : W.grownBy W' av.ownBlock) : SE W' B lx mx mb g L rv left segs k := by
 refine ⟨(hg.block lx (heap_lt h.lh) (fun e => own_ne_cells hrow h.lh (by decide) e.symm)).trans h.lh, (hg.block mx (heap_lt h.mh) (fun e => own_ne_cells hrow h.mh (by decide) e.symm)).trans h.mh, (hg.block mb (heap_lt h.mp) (fun e => own_ne_map hrow h.mp e.symm)).trans h.mp, ?_⟩
 have n3 : left ≠ [] → some g ≠ av.ownBlock := fun hn e => by
  obtain ⟨cs, hc⟩ := h.r.ty hn
  exact own_ne_cells hrow hc (by decide) e.symm
 refine ⟨own_grown h.r.row hg (own_types h.r.row hrow (by decide)), fun i hi => cell_grown hg (h.r.lf i hi) (n3 (by rintro rfl; simp [nl] at hi)), h.r.ok, fun hn => ⟨(h.r.lt hn).1, Nat.lt_of_lt_of_le (h.r.lt hn).2 hg.size⟩, fun hn => ?_⟩
 obtain ⟨cs, hc⟩ := h.r.ty hn
 exact ⟨cs, (hg.block g (heap_lt hc) (n3 hn)).trans hc⟩
theorem nl_seg (left : List Nat) (a b : Nat) : nl (segL left (a, b)) = ((nl left).take b).drop a := by simp [nl, segL, List.map_take, List.map_drop]
theorem Tryz.infoSqP : (Tryz.prog.info? 146).map (fun i => (i.zero, i.size, i.bytes)) = some (some (.pointer none), 1, 8) := by kernel_rfl
theorem begsB_not (cs : List Int) (r : List Nat) (p : Nat) (hp : r.headD 0 = p) : begsB cs r = !(cs.getD p 0 == 21 && decide (0 ≤ opener cs p)) := by rw [begsB, hp]
theorem take_map_succ {α β : Type} (f : α → β) (l : List α) (d : α) (k : Nat) (hk : k < l.length) : (l.take (k + 1)).map f = (l.take k).map f ++ [f (l.getD k d)] := by
 rw [List.take_add_one, List.getElem?_eq_getElem hk, List.map_append, List.getD_eq_getElem?_getD, List.getElem?_eq_getElem hk]; rfl
theorem seg_last {left : List Nat} {a b : Nat} (h : a < b ∧ b ≤ left.length) : (segL left (a, b)).getLastD 0 = left.getD (b - 1) 0 := by
 have hl := (segL_head (ab := (a, b)) h).2.2
 rw [List.getLastD_eq_getLast?, List.getLast?_eq_getElem?, hl]
 simp only [segL]
 rw [List.getElem?_drop, List.getElem?_take_of_lt (by omega), List.getD_eq_getElem?_getD]
 congr 2
 omega
theorem lastC_app (l r : List Nat) (h : r ≠ []) : (l ++ r).getLastD 0 = r.getLastD 0 := by
 rw [List.getLastD_eq_getLast?, List.getLastD_eq_getLast?, List.getLast?_append]
 cases hr : r.getLast? with
 | none => exact absurd (List.getLast?_eq_none_iff.1 hr) h
 | some x => rfl
end Go.Proofs.YtkbinfhclaafhaaGreatDoor
namespace Go.Proofs.YtkbinfhclaafhaaGreatDoor
open Go.RowKit
structure FS (w : World) (L : LP) (ks ls : List Int) (go : Nat) (o : List Int) : Prop where
 ln : LX w L ks ls
 row : IRow w L.B go L.n L.n o
 ap : ∀ g, L.has g → g ≠ go
section
variable {w w' : World} {L : LP} {ks ls o : List Int} {go : Nat}
theorem FS.below (h : FS w L ks ls go o) (hb : Below w.heap.size w w') : FS w' L ks ls go o := ⟨h.ln.below hb, own_below h.row hb, h.ap⟩
theorem FS.set (h : FS w L ks ls go o) (k : Nat) (a : Int) : FS (w.setCell ⟨go, k, none⟩ (.int .i64 a)) L ks ls go (o.set k a) :=
 ⟨h.ln.same (by simp) fun g hg => Below.heap_setCell _ _ _ _ (h.ap g hg), h.row.set k a, h.ap⟩
theorem FS.grown (h : FS w L ks ls go o) (k : Nat) (a : Int) : w.grownBy (w.setCell ⟨go, k, none⟩ (.int .i64 a)) (some go) := h.row.grown k a
theorem FS.drew (h : FS w L ks ls go o) : FS w.drew L ks ls go o := h.below (Below.refl _ _).drew
theorem FS.len (h : FS w L ks ls go o) : o.length = L.n := h.row.len
theorem IRow.apart {B g n c b : Nat} {t : List Int} {ty : TypeId} {cs : Array Value} (h : IRow w B g n c t) (hb : w.heap[b]? = some (.cells cs ty (0, 0))) (hty : ty ≠ 3) : g ≠ b := by
 rcases h.2 with ⟨e, _⟩ | ⟨g', cp, cur, e, _, hh, _⟩
 ·cases e
 ·injection e with e1
  injection e1 with e4
  injection e4 with e5
  subst e5
  intro e
  rw [e, hb] at hh
  simp at hh
  exact hty hh.2
end
def fF (s c : Int) (_ : List Int) : Int := if c = -1 then s else c
theorem passF_fill : ∀ (l : List Int) (a : Int), pass fF fF a l = fillP a l
 | [], _ => rfl
 | c :: r, a => by rw [pass, fillP, passF_fill r]; rfl
set_option maxRecDepth 100000 in
set_option maxHeartbeats 8000000 in
theorem fillOut_row (w : World) (L : LP) (ks ls : List Int) (go : Nat) (o : List Int) (h : FS w L ks ls go o) (hn : L.n ≤ 1000) :
  Calls Tryz.prog 164 #[.pointer (some ⟨L.lb, 0, none⟩), .slice (some ⟨go, 0, none⟩) L.n L.n] w fun e w' => e = .returned (.tuple #[]) ∧ FS w' L ks ls go (fillP L.p o) ∧ w.grownBy w' (some go) := by
 have HS0 : Hid (FS w L ks ls go o) := h
 have HL : Hid (o.length = L.n) := h.len
 have a5 := h.ln.f5
 clear h
 go_enter Tryz.func164, Tryz.ntmps164
 go_wp2
 clear a5
 go_loopg [4, 13] L.n (fun gk sv iv wr => ∃ (k : Nat) (s : Int) (t' : List Int), k ≤ L.n ∧ gk = L.n - k ∧ sv = .int .i64 s ∧ iv = .int .i64 k ∧ FS wr L ks ls go t' ∧ w.grownBy wr (some go) ∧ PassTo fF fF L.p o k s t')
 case atStart => exact ⟨0, L.p, o, by omega, rfl, rfl, rfl, HS0.out, World.grownBy.refl _ _, PassTo.start _ _ _ _⟩
 case round =>
  clear HS0
  obtain ⟨k, s, t', hk, rfl, rfl, rfl, hS, hG, hN⟩ := hrel
  by_cases hlt : k < L.n
  ·have hlt' : k < o.length := by rw [HL.out]; exact hlt
   have hcell := hS.row.cell k hlt
   rw [hN.at k (Nat.le_refl _)] at hcell
   have hfr := hS.row.frozen k
   have hkn : (k : Int) < (L.n : Int) := by omega
   have HS : Hid (FS wr L ks ls go t') := hS
   have HG : Hid (w.grownBy wr (some go)) := hG
   have keyStay : ¬ o.getD k 0 = -1 → Hid (PassTo fF fF L.p o (k + 1) (o.getD k 0) t') := fun h1 => hN.stay hlt' _ (by rw [fF, if_neg h1]) (by rw [fF, if_neg h1])
   have keySet : o.getD k 0 = -1 → Hid (PassTo fF fF L.p o (k + 1) s (t'.set k s)) := fun h1 => hN.step hlt' s s (by rw [fF, if_pos h1]) (by rw [fF, if_pos h1])
   have HC : Hid ((wr.setCell ⟨go, k, none⟩ (.int .i64 s)).cell? ⟨go, k, none⟩ = some (.int .i64 s)) := World.cell?_setCell_same' _ _ _ (by rw [hcell]; rfl)
   clear hS hG hN
   generalize o.getD k 0 = c at *
   by_cases hc : c = -1
   ·have HK := keySet hc
    subst hc
    clear keyStay keySet
    go_wp2
    go_roundg (L.n - (k + 1))
    case measure => omega
    case rel => exact ⟨k + 1, s, _, by omega, rfl, rfl, by go_num, HS.out.set k s, HG.out.trans (HS.out.grown k s), HK.out⟩
   ·have HK := keyStay hc
    have qc : (c == -1) = false := by simpa using hc
    clear keyStay keySet
    go_wp2
    go_roundg (L.n - (k + 1))
    case measure => omega
    case rel => exact ⟨k + 1, c, _, by omega, rfl, rfl, by go_num, HS.out, HG.out, HK.out⟩
  ·have hpe : t' = fillP L.p o := by rw [← passF_fill]; exact hN.stop (by rw [HL.out]; exact hlt)
   have HS : Hid (FS wr L ks ls go (fillP L.p o)) := by rw [← hpe]; exact hS
   have HG : Hid (w.grownBy wr (some go)) := hG
   have hkn : ¬ (k : Int) < (L.n : Int) := by omega
   clear hS hG hN hpe
   go_wp2
   go_end0
   exact ⟨rfl, HS.out, HG.out⟩
def BxL (W : World) (L : LP) (bl : Nat) : Prop := W.heap[bl]? = some (.cells #[.pointer (some ⟨L.lb, 0, none⟩)] 136 (0, 0))
def BxV (W : World) (L : LP) (go bv : Nat) : Prop := W.heap[bv]? = some (.cells #[.slice (some ⟨go, 0, none⟩) L.n L.n] 31 (0, 0))
set_option maxRecDepth 100000 in
set_option maxHeartbeats 4000000 in
theorem isTrail_any (w : World) (L : LP) (ks ls : List Int) (go bl : Nat) (o : List Int) (h : FS w L ks ls go o) (hb : BxL w L bl) (i : Nat) (hi : i < L.n) :
  Calls Tryz.prog 161 #[.int .i64 i, .pointer (some ⟨bl, 0, none⟩)] w fun e w' => e = .returned (.bool (trailB (L.cs.getD i 0))) ∧ w' = w := by
 have a1 := h.ln.f1
 have ci := h.ln.ct i hi
 have cb : w.cell? ⟨bl, 0, none⟩ = some (.pointer (some ⟨L.lb, 0, none⟩)) := heap_cell hb 0
 have hi' : (i : Int) < (L.n : Int) := by omega
 clear h hb
 generalize L.cs.getD i 0 = c at *
 go_enter Tryz.func161, Tryz.ntmps161
 go_wp2_with fail
 refine (btrails_any c _).mono ?_
 rintro ev wx ⟨rfl, hx⟩
 have hx' := hx.symm
 subst hx'
 go_wp2
 go_ret
 exact ⟨rfl, rfl⟩
set_option maxRecDepth 100000 in
set_option maxHeartbeats 8000000 in
theorem tellTrail_any (w : World) (L : LP) (ks ls : List Int) (go bl bv : Nat) (o : List Int) (h : FS w L ks ls go o) (hn : L.n ≤ 1000) (hb : BxL w L bl) (hv : BxV w L go bv) (a b : Nat) (hab : a ≤ b) (hbn : b ≤ L.n) :
  Calls Tryz.prog 163 #[.int .i64 a, .int .i64 b, .pointer (some ⟨bv, 0, none⟩), .pointer (some ⟨bl, 0, none⟩)] w fun e w' => e = .returned (.tuple #[]) ∧ FS w' L ks ls go (if b < L.n ∧ L.cs.getD b 0 ≠ 10 then o else fillV o a L.p (b - a)) ∧ BxL w' L bl ∧ BxV w' L go bv ∧ w.grownBy w' (some go) := by
 have cl : w.cell? ⟨bl, 0, none⟩ = some (.pointer (some ⟨L.lb, 0, none⟩)) := heap_cell hb 0
 have cv : w.cell? ⟨bv, 0, none⟩ = some (.slice (some ⟨go, 0, none⟩) L.n L.n) := heap_cell hv 0
 have HS0 : Hid (FS w L ks ls go o) := h
 have HBs : Hid (BxL w L bl ∧ BxV w L go bv) := ⟨hb, hv⟩
 have a1 := h.ln.f1
 have HT : Hid (∀ k, k < L.n → w.cell? ⟨L.gt, k, none⟩ = some (.int .i64 (L.cs.getD k 0))) := fun k hk => h.ln.ct k hk
 have HN1 : Hid (go ≠ bl) := h.row.apart hb (by decide)
 have HN2 : Hid (go ≠ bv) := h.row.apart hv (by decide)
 clear h hb hv
 by_cases hx : b < L.n ∧ L.cs.getD b 0 ≠ 10
 ·rw [if_pos hx]
  have cb := HT.out b hx.1
  have q : (L.cs.getD b 0 != 10) = true := by simpa using hx.2
  have hb' : (b : Int) < (L.n : Int) := by omega
  clear hx
  generalize L.cs.getD b 0 = c at *
  go_enter Tryz.func163, Tryz.ntmps163
  go_wp2
  exact bodyPost_ret (results_none rfl _ _ _) rfl ⟨rfl, HS0.out, HBs.out.1, HBs.out.2, World.grownBy.refl _ _⟩
 ·rw [if_neg hx]
  by_cases hb : b < L.n
  case pos =>
   have cb := HT.out b hb
   have q : (L.cs.getD b 0 != 10) = false := by
    have : L.cs.getD b 0 = 10 := Decidable.byContradiction fun h => hx ⟨hb, h⟩
    rw [this]; rfl
   have hb' : (b : Int) < (L.n : Int) := by omega
   clear hx
   generalize L.cs.getD b 0 = c at *
   go_enter Tryz.func163, Tryz.ntmps163
   go_wp2
   clear cl cv a1
   go_loopg [6] (b - a) (fun gk iv wr => ∃ m : Nat, a + m ≤ b ∧ gk = b - a - m ∧ iv = .int .i64 ((a + m : Nat) : Int) ∧ FS wr L ks ls go (fillV o a L.p m) ∧ (BxL wr L bl ∧ BxV wr L go bv) ∧ w.grownBy wr (some go))
   case atStart => exact ⟨0, by omega, rfl, rfl, HS0.out, HBs.out, World.grownBy.refl _ _⟩
   case round =>
    clear HS0 HBs HT
    obtain ⟨m, hm, rfl, rfl, hS, hBs, hG⟩ := hrel
    by_cases hlt : a + m < b
    ·have hcell := hS.row.cell (a + m) (by omega)
     have hfr := hS.row.frozen (a + m)
     have c5 := hS.ln.f5
     have cl : wr.cell? ⟨bl, 0, none⟩ = some (.pointer (some ⟨L.lb, 0, none⟩)) := heap_cell hBs.1 0
     have cv : wr.cell? ⟨bv, 0, none⟩ = some (.slice (some ⟨go, 0, none⟩) L.n L.n) := heap_cell hBs.2 0
     have HS : Hid (FS (wr.setCell ⟨go, a + m, none⟩ (.int .i64 L.p)) L ks ls go (fillV o a L.p (m + 1))) := hS.set (a + m) L.p
     have HB : Hid (BxL (wr.setCell ⟨go, a + m, none⟩ (.int .i64 L.p)) L bl ∧ BxV (wr.setCell ⟨go, a + m, none⟩ (.int .i64 L.p)) L go bv) := ⟨(Below.heap_setCell _ _ _ _ HN1.out.symm).trans hBs.1, (Below.heap_setCell _ _ _ _ HN2.out.symm).trans hBs.2⟩
     have HG : Hid (w.grownBy (wr.setCell ⟨go, a + m, none⟩ (.int .i64 L.p)) (some go)) := hG.trans (hS.grown (a + m) L.p)
     have h1 : (a : Int) + (m : Int) < (b : Int) := by omega
     have h2 : (a : Int) + (m : Int) < (L.n : Int) := by omega
     clear hS hG hBs
     generalize (fillV o a L.p m).getD (a + m) 0 = q at *
     go_wp2
     go_region
     all_goals
      go_wp2
      go_roundg (b - a - (m + 1))
      case measure => omega
      case rel => exact ⟨m + 1, by omega, rfl, by go_num, HS.out.drew, HB.out, HG.out.trans drew_grown⟩
    ·have h1 : ¬ (a : Int) + (m : Int) < (b : Int) := by omega
     have e : m = b - a := by omega
     have HS : Hid (FS wr L ks ls go (fillV o a L.p (b - a))) := by rw [← e]; exact hS
     have HG : Hid (w.grownBy wr (some go)) := hG
     have HB : Hid (BxL wr L bl ∧ BxV wr L go bv) := hBs
     clear hS hG hBs
     go_wp2
     go_end0
     exact ⟨rfl, HS.out, HB.out.1, HB.out.2, HG.out⟩
  case neg =>
   have hb' : ¬ (b : Int) < (L.n : Int) := by omega
   have hb2 : decide ((b : Int) < (L.n : Int)) = false := by simpa using hb'
   clear hx
   go_enter Tryz.func163, Tryz.ntmps163
   go_wp2
   clear cl cv a1
   go_loopg [6] (b - a) (fun gk iv wr => ∃ m : Nat, a + m ≤ b ∧ gk = b - a - m ∧ iv = .int .i64 ((a + m : Nat) : Int) ∧ FS wr L ks ls go (fillV o a L.p m) ∧ (BxL wr L bl ∧ BxV wr L go bv) ∧ w.grownBy wr (some go))
   case atStart => exact ⟨0, by omega, rfl, rfl, HS0.out, HBs.out, World.grownBy.refl _ _⟩
   case round =>
    clear HS0 HBs HT
    obtain ⟨m, hm, rfl, rfl, hS, hBs, hG⟩ := hrel
    by_cases hlt : a + m < b
    ·have hcell := hS.row.cell (a + m) (by omega)
     have hfr := hS.row.frozen (a + m)
     have c5 := hS.ln.f5
     have cl : wr.cell? ⟨bl, 0, none⟩ = some (.pointer (some ⟨L.lb, 0, none⟩)) := heap_cell hBs.1 0
     have cv : wr.cell? ⟨bv, 0, none⟩ = some (.slice (some ⟨go, 0, none⟩) L.n L.n) := heap_cell hBs.2 0
     have HS : Hid (FS (wr.setCell ⟨go, a + m, none⟩ (.int .i64 L.p)) L ks ls go (fillV o a L.p (m + 1))) := hS.set (a + m) L.p
     have HB : Hid (BxL (wr.setCell ⟨go, a + m, none⟩ (.int .i64 L.p)) L bl ∧ BxV (wr.setCell ⟨go, a + m, none⟩ (.int .i64 L.p)) L go bv) := ⟨(Below.heap_setCell _ _ _ _ HN1.out.symm).trans hBs.1, (Below.heap_setCell _ _ _ _ HN2.out.symm).trans hBs.2⟩
     have HG : Hid (w.grownBy (wr.setCell ⟨go, a + m, none⟩ (.int .i64 L.p)) (some go)) := hG.trans (hS.grown (a + m) L.p)
     have h1 : (a : Int) + (m : Int) < (b : Int) := by omega
     have h2 : (a : Int) + (m : Int) < (L.n : Int) := by omega
     clear hS hG hBs
     generalize (fillV o a L.p m).getD (a + m) 0 = q at *
     go_wp2
     go_region
     all_goals
      go_wp2
      go_roundg (b - a - (m + 1))
      case measure => omega
      case rel => exact ⟨m + 1, by omega, rfl, by go_num, HS.out.drew, HB.out, HG.out.trans drew_grown⟩
    ·have h1 : ¬ (a : Int) + (m : Int) < (b : Int) := by omega
     have e : m = b - a := by omega
     have HS : Hid (FS wr L ks ls go (fillV o a L.p (b - a))) := by rw [← e]; exact hS
     have HG : Hid (w.grownBy wr (some go)) := hG
     have HB : Hid (BxL wr L bl ∧ BxV wr L go bv) := hBs
     clear hS hG hBs
     go_wp2
     go_end0
     exact ⟨rfl, HS.out, HB.out.1, HB.out.2, HG.out⟩
end Go.Proofs.YtkbinfhclaafhaaGreatDoor
namespace Go.Proofs.YtkbinfhclaafhaaGreatDoor
open Go.RowKit
theorem trail_loose {c : Int} (h : 0 ≤ c ∧ c ≤ 21) : trailB c = looseB c := by
 rw [Bool.eq_iff_iff]
 simp only [trailB, looseB, isoB, leftB, Bool.or_eq_true, beq_iff_eq, Bool.not_eq_true', Bool.and_eq_false_iff, bne_eq_false_iff_eq, Bool.or_eq_false_iff, decide_eq_false_iff_not, decide_eq_true_eq]
 omega
theorem trailOn_run {cs : List Int} {b : Nat} (hb : b ≤ cs.length) : ∀ m a, a + m = b → (∀ q, a ≤ q → q < b → looseB (cs.getD q 0) = true) → trailOn (cs.drop a) = trailOn (cs.drop b)
 | 0, a, h, _ => by rw [← h]; rfl
 | m + 1, a, h, hr => by
  have h1 := hr a (Nat.le_refl _) (by omega)
  rw [drop_at (show a < cs.length by omega), trailOn, if_pos h1, if_neg (by intro e; rw [e] at h1; cases h1)]
  exact trailOn_run hb m (a + 1) (by omega) (fun q h1 h2 => hr q (by omega) h2)
theorem trailOnM_at {cs : List Int} {b : Nat} (hb : b < cs.length) (h : looseB (cs.getD b 0) = false) : trailOn (cs.drop b) = decide (cs.getD b 0 = 10) := by
 rw [drop_at hb, trailOn]
 by_cases h1 : cs.getD b 0 = 10
 ·rw [if_pos h1, decide_eq_true h1]
 ·rw [if_neg h1, if_neg (by rw [h]; decide), decide_eq_false h1]
theorem trailOn_end {cs : List Int} {b : Nat} (hb : ¬ b < cs.length) : trailOn (cs.drop b) = true := by rw [List.drop_eq_nil_of_le (by omega)]; rfl
theorem l1_length (p : Int) : ∀ cs os : List Int, cs.length = os.length → (l1 p cs os).length = cs.length
 | [], _, _ => rfl
 | _ :: _, [], h => by cases h
 | c :: cs, o :: os, h => by rw [l1, List.length_cons, l1_length p cs os (by simpa using h)]; rfl
theorem l1_get (p : Int) : ∀ (cs os : List Int) (j : Nat), cs.length = os.length → j < cs.length → (l1 p cs os).getD j 0 = l1b p (cs.getD j 0) (cs.drop (j + 1)) (l1a p (cs.getD j 0) (os.getD j 0))
 | [], _, j, _, hj => by cases hj
 | _ :: _, [], _, h, _ => by cases h
 | c :: cs, o :: os, 0, _, _ => rfl
 | c :: cs, o :: os, j + 1, h, hj => by
  have := l1_get p cs os j (by simpa using h) (by simpa using hj)
  rw [l1]
  simpa using this
theorem l1_map (p : Int) (cs os : List Int) (h : cs.length = os.length) : (List.range cs.length).map (fun j => l1b p (cs.getD j 0) (cs.drop (j + 1)) (l1a p (cs.getD j 0) (os.getD j 0))) = l1 p cs os := by
 apply List.ext_getElem?
 intro j
 rcases Nat.lt_or_ge j cs.length with hj | hj
 ·rw [List.getElem?_map, List.getElem?_range hj, List.getElem?_eq_getElem (by rw [l1_length p cs os h]; exact hj)]
  have := l1_get p cs os j h hj
  have e2 : (l1 p cs os).getD j 0 = (l1 p cs os)[j]'(by rw [l1_length p cs os h]; exact hj) := by rw [List.getD_eq_getElem?_getD, List.getElem?_eq_getElem (by rw [l1_length p cs os h]; exact hj)]; rfl
  rw [e2] at this
  exact congrArg some this.symm
 ·rw [List.getElem?_eq_none (by simp; exact hj), List.getElem?_eq_none (by rw [l1_length p cs os h]; exact hj)]
theorem KTo.more {n k : Nat} {l : List Int} {f g : Nat → Int} (h : KTo n k l f g) {b : Nat} (hkb : k ≤ b) (he : ∀ j, k ≤ j → j < b → j < n → f j = g j) : KTo n b l f g := by
 refine ⟨h.1, fun j hj => ?_⟩
 rw [h.2 j hj]
 by_cases h1 : j < k
 ·rw [if_pos h1, if_pos (by omega)]
 ·rw [if_neg h1]
  by_cases h2 : j < b
  ·rw [if_pos h2, he j (by omega) h2 hj]
  ·rw [if_neg h2]
theorem KTo.fill {n k : Nat} {l : List Int} {f g : Nat → Int} (h : KTo n k l f g) {b : Nat} (hkb : k ≤ b) (hb : b ≤ n) (v : Int) (he : ∀ j, k ≤ j → j < b → f j = v) : KTo n b (fillV l k v (b - k)) f g := by
 refine ⟨by rw [fillV_length]; exact h.1, fun j hj => ?_⟩
 rw [fillV_at _ _ _ _ _ (by rw [h.1]; omega)]
 by_cases h1 : k ≤ j ∧ j < k + (b - k)
 ·rw [if_pos h1, if_pos (by omega), he j h1.1 (by omega)]
 ·rw [if_neg h1, h.2 j hj]
  by_cases h2 : j < k
  ·rw [if_pos h2, if_pos (by omega)]
  ·rw [if_neg h2, if_neg (by omega)]
theorem app3 (a b c d : Value) : (#[a, b] ++ #[c, d] : Array Value) = #[a, b, c, d] := rfl
def tL (L : LP) (o : List Int) (j : Nat) : Int := l1b L.p (L.cs.getD j 0) (L.cs.drop (j + 1)) (l1a L.p (L.cs.getD j 0) (o.getD j 0))
def aL (L : LP) (o : List Int) (j : Nat) : Int := l1a L.p (L.cs.getD j 0) (o.getD j 0)
section
variable (w : World) (L : LP) (ks ls : List Int) (go bl bv : Nat) (o : List Int)
def JL (a : Nat) (o' : List Int) (W : World) : Prop := FS W L ks ls go o' ∧ BxL W L bl ∧ BxV W L go bv ∧ w.grownBy W (some go) ∧ KTo L.n (min a L.n) o' (tL L o) (aL L o)
theorem last_law (hn : L.n ≤ 1000) (hl : L.cs.length = L.n) (hcs : ∀ c ∈ L.cs, 0 ≤ c ∧ c ≤ 21) : RowLaw L.n 161 163 #[.pointer (some ⟨bl, 0, none⟩)] #[.pointer (some ⟨bv, 0, none⟩), .pointer (some ⟨bl, 0, none⟩)] (JL w L ks ls go bl bv o) (fun _ i => trailB (L.cs.getD i 0)) := by
 have hlo : ∀ j, j < L.n → trailB (L.cs.getD j 0) = looseB (L.cs.getD j 0) := fun j hj => trail_loose (hcs _ (getD_mem (by rw [hl]; exact hj)))
 have hnl : ∀ j, looseB (L.cs.getD j 0) = false → tL L o j = aL L o j := fun j h => by
  rw [tL, l1b, if_neg (fun hh => by rw [h] at hh; cases hh.1)]; rfl
 refine ⟨?_, ?_, ?_⟩
 ·rintro o' a W i ⟨hS, hB, hV, hG, hK⟩ _ hi
  rw [app1]
  refine (isTrail_any W L ks ls go bl o' hS hB i hi).mono ?_
  rintro e W' ⟨rfl, rfl⟩
  exact ⟨rfl, hS, hB, hV, hG, hK⟩
 ·rintro o' a W ⟨hS, hB, hV, hG, hK⟩ ha hq
  rw [Nat.min_eq_left (by omega)] at hK
  refine ⟨o', hS, hB, hV, hG, ?_⟩
  rw [Nat.min_eq_left (by omega)]
  refine hK.more (by omega) fun j h1 h2 _ => ?_
  rw [show j = a by omega]
  exact hnl a (by rw [← hlo a ha]; exact hq)
 ·rintro o' a b W ⟨hS, hB, hV, hG, hK⟩ hab hbn hall hend
  rw [Nat.min_eq_left (by omega)] at hK
  rw [app3]
  refine (tellTrail_any W L ks ls go bl bv o' hS hn hB hV a b (by omega) hbn).mono ?_
  rintro e W' ⟨rfl, hS', hB', hV', hG'⟩
  have hrun : ∀ q, a ≤ q → q < b → looseB (L.cs.getD q 0) = true := fun q h1 h2 => by rw [← hlo q (by omega)]; exact hall q h1 h2
  have hon : ∀ j, a ≤ j → j < b → trailOn (L.cs.drop (j + 1)) = trailOn (L.cs.drop b) := fun j h1 h2 => trailOn_run (by omega) (b - (j + 1)) (j + 1) (by omega) fun q h3 h4 => hrun q (by omega) h4
  have fin : ∀ o2, KTo L.n b o2 (tL L o) (aL L o) → KTo L.n (min (b + 1) L.n) o2 (tL L o) (aL L o) := fun o2 h => by
   by_cases hb : b < L.n
   ·rw [Nat.min_eq_left (by omega)]
    refine h.more (by omega) fun j h1 h2 _ => ?_
    rw [show j = b by omega]
    exact hnl b (by rw [← hlo b hb]; exact hend hb)
   ·rw [show min (b + 1) L.n = b by omega]; exact h
  refine ⟨rfl, _, hS', hB', hV', hG.trans hG', fin _ ?_⟩
  by_cases hc : b < L.n ∧ L.cs.getD b 0 ≠ 10
  ·rw [if_pos hc]
   have hf : looseB (L.cs.getD b 0) = false := by rw [← hlo b hc.1]; exact hend hc.1
   refine hK.more (by omega) fun j h1 h2 _ => ?_
   have hne : ¬ (looseB (L.cs.getD j 0) = true ∧ trailOn (L.cs.drop (j + 1)) = true) := fun hh => by
    rw [hon j h1 h2, trailOnM_at (by omega) hf, decide_eq_false hc.2] at hh
    cases hh.2
   rw [tL, l1b, if_neg hne]; rfl
  ·rw [if_neg hc]
   refine hK.fill (by omega) hbn L.p fun j h1 h2 => ?_
   have hyes : trailOn (L.cs.drop (j + 1)) = true := by
    rw [hon j h1 h2]
    by_cases hb : b < L.n
    ·have h10 : L.cs.getD b 0 = 10 := Decidable.byContradiction fun h => hc ⟨hb, h⟩
     rw [trailOnM_at (by omega) (by rw [← hlo b hb]; exact hend hb), h10]; rfl
    ·exact trailOn_end (by omega)
   rw [tL, l1b, if_pos ⟨hrun j h1 h2, hyes⟩]
end
set_option maxRecDepth 100000 in
set_option maxHeartbeats 16000000 in
theorem setLast_row (w : World) (L : LP) (ks ls : List Int) (go : Nat) (o : List Int) (h : FS w L ks ls go o) (hn : L.n ≤ 1000) (hcs : ∀ c ∈ L.cs, 0 ≤ c ∧ c ≤ 21) :
  Calls Tryz.prog 89 #[.pointer (some ⟨L.lb, 0, none⟩), .slice (some ⟨go, 0, none⟩) L.n L.n] w fun e w' => e = .returned (.tuple #[]) ∧ FS w' L ks ls go (fillP L.p (l1 L.p L.cs o)) ∧ w.grownBy w' (some go) := by
 have hmf : ∀ (fn : Fn) (first cap : Array Value) (w : World), (Instr.makeFunc fn first cap).run Tryz.prog w = .ok (.func fn first cap) w := fun _ _ _ _ => rfl
 obtain ⟨W1, hW1⟩ : ∃ W1, W1 = (w.alloc (.cells #[.pointer (some ⟨L.lb, 0, none⟩)] 136)).alloc (.cells #[.slice (some ⟨go, 0, none⟩) L.n L.n] 31) := ⟨_, rfl⟩
 have hb1 : Below w.heap.size w W1 := by rw [hW1]; exact ((Below.refl _ _).alloc (Nat.le_refl _) _).alloc (by simp) _
 have HS1 : Hid (FS W1 L ks ls go o) := h.below hb1
 have HBL : Hid (BxL W1 L w.heap.size) := by
  show _ = _
  rw [hW1, Below.heap_alloc _ _ _ (by simp)]
  exact Array.getElem?_push_size
 have HBV : Hid (BxV W1 L go (w.heap.size + 1)) := by
  show _ = _
  rw [hW1, show w.heap.size + 1 = (w.alloc (.cells #[.pointer (some ⟨L.lb, 0, none⟩)] 136)).heap.size by simp]
  exact Array.getElem?_push_size
 have HG1 : Hid (w.grownBy W1 (some go)) := ⟨hb1.os, hb1.tape, hb1.output, hb1.size, fun k hk _ => hb1.block k hk⟩
 have HLn : Hid (L.cs.length = L.n ∧ o.length = L.n) := ⟨h.ln.len, h.len⟩
 have HCs : Hid (∀ c ∈ L.cs, 0 ≤ c ∧ c ≤ 21) := hcs
 have HN1 : Hid (go ≠ w.heap.size) := by have := (World.ownsRow.lt h.row go rfl).2; show _ ≠ _; omega
 have HN2 : Hid (go ≠ w.heap.size + 1) := by have := (World.ownsRow.lt h.row go rfl).2; show _ ≠ _; omega
 have a1 : ((w.alloc (.cells #[.pointer (some ⟨L.lb, 0, none⟩)] 136)).alloc (.cells #[.slice (some ⟨go, 0, none⟩) L.n L.n] 31)).cell? ⟨L.lb, 1, none⟩ = some (.slice (some ⟨L.gt, 0, none⟩) L.n L.ct) := by rw [← hW1]; exact HS1.out.ln.f1
 clear h hb1 hcs
 go_enter Tryz.func89, Tryz.ntmps89
 go_wp2
 rw [← hW1]
 clear a1 hW1
 generalize w.heap.size + 1 = bv at *
 generalize w.heap.size = bl at *
 go_loopg [12] L.n (fun gk iv W => ∃ (k : Nat) (o' : List Int), k ≤ L.n ∧ gk = L.n - k ∧ iv = .int .i64 k ∧ FS W L ks ls go o' ∧ (BxL W L bl ∧ BxV W L go bv) ∧ w.grownBy W (some go) ∧ KTo L.n k o' (aL L o) (fun j => o.getD j 0))
 case atStart => exact ⟨0, o, by omega, rfl, rfl, HS1.out, ⟨HBL.out, HBV.out⟩, HG1.out, ⟨HLn.out.2, fun j _ => by rw [if_neg (by omega)]⟩⟩
 case round =>
  clear HS1 HBL HBV HG1
  obtain ⟨k, o', hk, rfl, rfl, hS, hBs, hG, hK⟩ := hrel
  have cl : wr.cell? ⟨bl, 0, none⟩ = some (.pointer (some ⟨L.lb, 0, none⟩)) := heap_cell hBs.1 0
  have cv : wr.cell? ⟨bv, 0, none⟩ = some (.slice (some ⟨go, 0, none⟩) L.n L.n) := heap_cell hBs.2 0
  by_cases hlt : k < L.n
  ·have ct := hS.ln.ct k hlt
   have hcell := hS.row.cell k hlt
   have hfr := hS.row.frozen k
   have c5 := hS.ln.f5
   have hkn : (k : Int) < (L.n : Int) := by omega
   have ek : o'.getD k 0 = o.getD k 0 := by have := hK.2 k hlt; rw [if_neg (by omega)] at this; exact this
   have HS : Hid (FS wr L ks ls go o') := hS
   have HBs : Hid (BxL wr L bl ∧ BxV wr L go bv) := hBs
   have HG : Hid (w.grownBy wr (some go)) := hG
   have keySet : ∀ v, aL L o k = v → Hid (KTo L.n (k + 1) (o'.set k v) (aL L o) (fun j => o.getD j 0)) := fun v e => by subst e; exact hK.step hlt
   have keyStay : aL L o k = o.getD k 0 → Hid (KTo L.n (k + 1) o' (aL L o) (fun j => o.getD j 0)) := fun e => hK.more (by omega) fun j h1 h2 _ => by rw [show j = k by omega]; exact e
   have HB2 : Hid (∀ v : Int, BxL (wr.setCell ⟨go, k, none⟩ (.int .i64 v)) L bl ∧ BxV (wr.setCell ⟨go, k, none⟩ (.int .i64 v)) L go bv) := fun v => ⟨(Below.heap_setCell _ _ _ _ HN1.out.symm).trans hBs.1, (Below.heap_setCell _ _ _ _ HN2.out.symm).trans hBs.2⟩
   unfold aL l1a at keySet keyStay
   clear hS hBs hG hK ek
   generalize L.cs.getD k 0 = c at *
   generalize o'.getD k 0 = q at *
   by_cases h10 : c = 10
   ·subst h10
    have HK := keySet L.p (if_pos rfl)
    clear keySet keyStay
    go_wp2_with fail
    refine (takenOut_any 10 _).mono ?_
    rintro ev wx ⟨rfl, hx⟩
    have hx' := hx.symm
    subst hx'
    rw [show (!leftB 10) = false from rfl]
    go_wp2
    go_region
    all_goals
     go_wp2
     go_roundg (L.n - (k + 1))
     case measure => omega
     case rel => exact ⟨k + 1, _, by omega, rfl, by go_num, (HS.out.set k L.p).drew, HB2.out L.p, (HG.out.trans (HS.out.grown k L.p)).trans drew_grown, HK.out⟩
   ·have q10 : (c == 10) = false := by simpa using h10
    cases hl : leftB c
    ·have HK := keySet (-1) (by rw [if_neg h10, if_pos hl])
     have HL : Hid ((!leftB c) = true) := by show _ = _; rw [hl]; rfl
     clear keySet keyStay hl
     go_wp2_with fail
     refine (takenOut_any c _).mono ?_
     rintro ev wx ⟨rfl, hx⟩
     have hx' := hx.symm
     subst hx'
     rw [HL.out]
     go_wp2
     go_roundg (L.n - (k + 1))
     case measure => omega
     case rel => exact ⟨k + 1, _, by omega, rfl, by go_num, HS.out.set k (-1), HB2.out (-1), HG.out.trans (HS.out.grown k (-1)), HK.out⟩
    ·have HK := keyStay (by rw [if_neg h10, if_neg (by rw [hl]; decide)])
     have HL : Hid ((!leftB c) = false) := by show _ = _; rw [hl]; rfl
     clear keySet keyStay hl
     go_wp2_with fail
     refine (takenOut_any c _).mono ?_
     rintro ev wx ⟨rfl, hx⟩
     have hx' := hx.symm
     subst hx'
     rw [HL.out]
     go_wp2
     go_roundg (L.n - (k + 1))
     case measure => omega
     case rel => exact ⟨k + 1, _, by omega, rfl, by go_num, HS.out, HBs.out, HG.out, HK.out⟩
  ·obtain rfl : k = L.n := by omega
   have hkn : ¬ (L.n : Int) < (L.n : Int) := by omega
   have HC : Hid (Calls Tryz.prog 97 #[.int .i64 L.n, .func (.func 161) #[] #[.pointer (some ⟨bl, 0, none⟩)], .func (.func 163) #[] #[.pointer (some ⟨bv, 0, none⟩), .pointer (some ⟨bl, 0, none⟩)]] wr fun e w' => e = .returned (.tuple #[]) ∧ ∃ k x, L.n ≤ k ∧ JL w L ks ls go bl bv o k x w') :=
    eachRow_any L.n _ _ _ _ _ _ hn (last_law w L ks ls go bl bv o hn HLn.out.1 HCs.out) (callFunc_enter Tryz.func161 (by kernel_rfl) (by kernel_rfl)) (callFunc_enter Tryz.func163 (by kernel_rfl) (by kernel_rfl)) o' wr
     ⟨hS, hBs.1, hBs.2, hG, by rw [Nat.zero_min]; exact ⟨hK.1, fun j hj => by rw [if_neg (by omega)]; have := hK.2 j hj; rw [if_pos hj] at this; exact this⟩⟩
   clear hS hBs hG hK
   go_wp2_with fail
   refine HC.out.mono ?_
   rintro ev w3 ⟨rfl, k3, o3, hk3, hS3, hB3, hV3, hG3, hK3⟩
   rw [Nat.min_eq_right hk3] at hK3
   have e3 : o3 = l1 L.p L.cs o := by rw [hK3.done, ← l1_map L.p L.cs o (by rw [HLn.out.1, HLn.out.2]), HLn.out.1]; rfl
   have HS3 : Hid (FS w3 L ks ls go (l1 L.p L.cs o)) := by rw [← e3]; exact hS3
   have HG3 : Hid (w.grownBy w3 (some go)) := hG3
   have cl3 : w3.cell? ⟨bl, 0, none⟩ = some (.pointer (some ⟨L.lb, 0, none⟩)) := heap_cell hB3 0
   have cv3 : w3.cell? ⟨bv, 0, none⟩ = some (.slice (some ⟨go, 0, none⟩) L.n L.n) := heap_cell hV3 0
   clear hS3 hB3 hV3 hG3 hK3 e3 HC cl cv
   go_wp2_with fail
   refine (fillOut_row w3 L ks ls go _ HS3.out hn).mono ?_
   rintro ev w4 ⟨rfl, hS4, hG4⟩
   have HS4 : Hid _ := hS4
   have HG4 : Hid _ := HG3.out.trans hG4
   clear hS4 hG4
   go_wp2
   go_end0
   exact ⟨rfl, HS4.out, HG4.out⟩
end Go.Proofs.YtkbinfhclaafhaaGreatDoor
namespace Go.Proofs.YtkbinfhclaafhaaGreatDoor
open Go.RowKit
set_option maxRecDepth 100000 in
set_option maxHeartbeats 4000000 in
theorem rise_any (l c : Int) (w : World) (hl : 0 ≤ l) : Calls Tryz.prog 159 #[.int .i64 l, .int .i64 c] w fun e w' => e = .returned (.int .i64 (riseS l c)) ∧ w' = w := by
 have HS : Hid (∀ W, Calls Tryz.prog 96 #[.int .i64 l] W fun e w' => e = .returned (.int .i64 (l % 2)) ∧ w' = W) := fun W => sideOf_any l W hl
 have h2 : l % 2 = 0 ∨ l % 2 = 1 := by omega
 obtain ⟨m, hm⟩ : ∃ m, m = l % 2 := ⟨_, rfl⟩
 have hr : riseS l c = if (c = 3 ∨ c = 6) ∧ m = 0 then 2 else if (c = 3 ∨ c = 6) ∨ c ≠ m then 1 else 0 := by
  unfold riseS
  rw [← hm]
  rcases h2 with h | h
  ·rw [show m = 0 by omega]; simp
  ·rw [show m = 1 by omega]; simp
 rw [hr]
 rw [← hm] at HS
 clear hr h2 hm
 by_cases hc : c = 3 ∨ c = 6
 ·by_cases hm0 : m = 0
  ·rw [if_pos ⟨hc, hm0⟩]
   subst hm0
   rcases hc with rfl | rfl
   all_goals
    go_enter Tryz.func159, Tryz.ntmps159
    go_wp2_with fail
    refine (HS.out _).mono ?_
    rintro ev wx ⟨rfl, hx⟩
    have hx' := hx.symm
    subst hx'
    go_wp2
    go_ret
    exact ⟨rfl, rfl⟩
  ·rw [if_neg (fun h => hm0 h.2), if_pos (.inl hc)]
   have q : (m == 0) = false := by simpa using hm0
   rcases hc with rfl | rfl
   all_goals
    go_enter Tryz.func159, Tryz.ntmps159
    go_wp2_with fail
    refine (HS.out _).mono ?_
    rintro ev wx ⟨rfl, hx⟩
    have hx' := hx.symm
    subst hx'
    go_wp2
    go_ret
    exact ⟨rfl, rfl⟩
 ·rw [if_neg (fun h => hc h.1)]
  have q3 : (c == 3) = false := by simp; omega
  have q6 : (c == 6) = false := by simp; omega
  by_cases hcm : c = m
  ·rw [if_neg (by omega)]
   have q : (c != m) = false := by simp [hcm]
   have HQ : Hid ((c != m) = false) := q
   clear hc hcm
   go_enter Tryz.func159, Tryz.ntmps159
   go_wp2_with fail
   refine (HS.out _).mono ?_
   rintro ev wx ⟨rfl, hx⟩
   have hx' := hx.symm
   subst hx'
   go_wp2
   go_ret
   exact ⟨rfl, rfl⟩
  ·rw [if_pos (.inr hcm)]
   have q : (c != m) = true := by simpa using hcm
   clear hc hcm
   go_enter Tryz.func159, Tryz.ntmps159
   go_wp2_with fail
   refine (HS.out _).mono ?_
   rintro ev wx ⟨rfl, hx⟩
   have hx' := hx.symm
   subst hx'
   go_wp2
   go_ret
   exact ⟨rfl, rfl⟩
theorem riseS_le (l c : Int) : 0 ≤ riseS l c ∧ riseS l c ≤ 2 := by
 unfold riseS
 split
 ·omega
 ·split <;> omega
theorem trip_take' (at' : List Nat) (lev : Int) (t : List Int) (j : Nat) (h1 : j < at'.length) (h2 : j < t.length) : (trip at' lev t).take (j + 1) = (trip at' lev t).take j ++ [(at'.getD j 0, lev, t.getD j 0)] := by
 have hl : j < (trip at' lev t).length := by rw [trip, List.length_map, List.length_zip]; omega
 rw [List.take_add_one, List.getElem?_eq_getElem hl]
 simp [trip, List.getD_eq_getElem?_getD, List.getElem?_eq_getElem h1, List.getElem?_eq_getElem h2]
end Go.Proofs.YtkbinfhclaafhaaGreatDoor
