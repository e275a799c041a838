import Derived.Test.YtkbinfhclaafhaaGreatDoorM01
import Derived.Lib.SmallJoins
import Derived.Deep.LoopGhost
import Derived.OwnWalk
import Derived.Laws.OwnMore
import Derived.Deep.OwnRows
import Derived.Maps.AppendAt
namespace Go.Proofs.YtkbinfhclaafhaaGreatDoor
open Go.RowKit
structure Fr (B s : Nat) (w w' : World) : Prop where
 below : Below B w w'
 oth : Lib.OthersKept 181 (some s) w w'
theorem Fr.refl (B s : Nat) (w : World) : Fr B s w w := ⟨Below.refl _ _, Lib.OthersKept.refl _ _ _⟩
theorem Fr.trans {B s : Nat} {a b c : World} (h : Fr B s a b) (k : Fr B s b c) : Fr B s a c := ⟨h.below.trans k.below, h.oth.trans k.oth⟩
theorem Fr.of_below {B s : Nat} {w w' : World} (hB : B ≤ w.heap.size) (hb : Below w.heap.size w w') : Fr B s w w' := ⟨hb.mono hB, fun _ _ h _ _ => heap_keep hb h⟩
theorem Fr.set {B s : Nat} {w : World} (hB : B ≤ s) (j : Nat) (u : Value) : Fr B s w (w.setCell ⟨s, j, none⟩ u) :=
 ⟨(Below.refl _ _).setCell hB u, (Lib.OthersKept.refl _ _ _).setCell ⟨s, j, none⟩ rfl u⟩
theorem StAt.lt {w : World} {B s : Nat} {v : Value} {st : List Ent} {a b c : Int} (h : StAt w B s v st a b c) : s < w.heap.size := by
 rcases Nat.lt_or_ge s w.heap.size with h' | h'
 ·exact h'
 ·have := h.cell; rw [Array.getElem?_eq_none h'] at this; cases this
theorem StAt.ne {w : World} {B s : Nat} {v : Value} {st : List Ent} {a b c : Int} (h : StAt w B s v st a b c) : v.ownBlock ≠ some s := by
 rcases h.row.2 with ⟨rfl, _⟩ | ⟨g, cp, cur, rfl, _, hh, _⟩
 ·simp [Value.ownBlock]
 ·simp only [Value.ownBlock]
  intro e
  obtain rfl := Option.some.inj e
  rw [h.cell] at hh
  simp at hh
theorem row_set {w : World} {B s : Nat} {v : Value} {e : TypeId} {z n : Nat} {xs : List Value} (h : w.ownsRow B e z v n xs) (hne : v.ownBlock ≠ some s) (j : Nat) (u : Value) : (w.setCell ⟨s, j, none⟩ u).ownsRow B e z v n xs :=
 ownsRow_blocks h fun k o hk ho => by
  rw [Below.heap_setCell]
  ·exact ho
  ·rintro rfl; exact hne hk
theorem StAt.setIsos {w : World} {B s : Nat} {v : Value} {st : List Ent} {a b c : Int} (h : StAt w B s v st a b c) (z : Int) : StAt (w.setCell ⟨s, 1, none⟩ (.int .i64 z)) B s v st z b c :=
 ⟨by rw [Joins.block_setCell h.cell]; rfl, row_set h.row h.ne _ _, h.low⟩
theorem StAt.setEmbs {w : World} {B s : Nat} {v : Value} {st : List Ent} {a b c : Int} (h : StAt w B s v st a b c) (z : Int) : StAt (w.setCell ⟨s, 2, none⟩ (.int .i64 z)) B s v st a z c :=
 ⟨by rw [Joins.block_setCell h.cell]; rfl, row_set h.row h.ne _ _, h.low⟩
theorem StAt.setValid {w : World} {B s : Nat} {v : Value} {st : List Ent} {a b c : Int} (h : StAt w B s v st a b c) (z : Int) : StAt (w.setCell ⟨s, 3, none⟩ (.int .i64 z)) B s v st a b z :=
 ⟨by rw [Joins.block_setCell h.cell]; rfl, row_set h.row h.ne _ _, h.low⟩
theorem Tryz.infoEntry2 : (Tryz.prog.info? 181).map (fun i => (i.zero, i.size, i.bytes)) = some (some (.agg #[.int .i64 0, .int .i64 0, .bool false]), 3, 24) := by kernel_rfl
theorem wpList_pushE {P : Program} (w : World) {ops : Array Oper} {rest : List Oper} {o : Oper} {a : Act} {Q : Exit → Act → World → Prop} (hgd : o.guard = none) (s x : Operand) (t : TypeId)
  (ho : o.op = .call { callee := .builtin .append, args := #[s, x], argTypes := #[t, t] })
  (base : Nat) (e : TypeId) (i : TypeInfo) (z : Value) (bytes : Nat) (ht : P.underlying t = some (.slice e)) (hi : P.info? e = some i) (hz : i.zero = some z)
  (hsize : i.size = 3) (hby : i.bytes = bytes) (hzs : z.cells.size = 3) (hb64 : bytes ≤ 64)
  (v : Value) (n : Nat) (xs : List Value) (hs : a.eval s = v) (hown : w.ownsRow base e 3 v n xs)
  (y0 y1 y2 : Value) (e' : TypeId) (k : Nat) (hx : a.eval x = .slice (some ⟨k, 0, none⟩) 1 1) (hk : k = w.heap.size) (h0 : y0.oneCell' = true) (h1 : y1.oneCell' = true) (h2 : y2.oneCell' = true) (hn : n ≤ 1000000) (hbase : base ≤ w.heap.size)
  (h : ∀ v' w', w'.ownsRow base e 3 v' (n + 1) (xs ++ [y0, y1, y2]) → w.grownBy w' v.ownBlock → wpList P ops Q rest (a.put o.dst v') w') : wpList P ops Q (o :: rest) a (w.alloc (.cells #[y0, y1, y2] e')) := by
 subst hk
 refine wpList_append_own _ hgd s x t ho base e i z 3 bytes ht hi hz hsize hby hzs (by decide) v n xs hs (hown.alloc _) ⟨w.heap.size, 0, none⟩ 1 1 [y0, y1, y2] hx rfl ?_ ?_ ?_ ?_ ?_ ?_
 ·intro j u hj
  match j, hj with
  | 0, hj => simp at hj; subst hj; simp [Addr.add]
  | 1, hj => simp at hj; subst hj; simp [Addr.add]
  | 2, hj => simp at hj; subst hj; simp [Addr.add]
 ·intro u hu; simp at hu; rcases hu with rfl | rfl | rfl
  ·exact h0
  ·exact h1
  ·exact h2
 ·unfold maxLen; omega
 ·have : (n + 1) * bytes ≤ 1000001 * 64 := Nat.mul_le_mul (by omega) hb64
  omega
 ·simp; omega
 ·intro v' w' h2 h3 _
  refine h v' w' h2 ⟨h3.os, h3.tape, h3.output, ?_, fun k hk hne => ?_⟩
  ·have := h3.size; simp at this; omega
  ·rw [h3.block k (by simp; omega) hne]
   exact Below.heap_alloc w _ k hk
theorem own_shape {w : World} {B : Nat} {e : TypeId} {z k : Nat} {v : Value} {xs : List Value} (h : w.ownsRow B e z v (k + 1) xs) : ∃ g cap, v = .slice (some ⟨g, 0, none⟩) (k + 1) cap := by
 rcases h.2 with ⟨_, h0⟩ | ⟨g, cp, cur, rfl, _⟩
 ·cases h0
 ·exact ⟨g, cp, rfl⟩
theorem StAt.push {w w5 : World} {B s : Nat} {v v' : Value} {st : List Ent} {a b c : Int} {e : Ent} (h : StAt w B s v st a b c) (hown : w5.ownsRow B 181 3 v' (st.length + 1) (entsV st ++ [.int .i64 e.l, .int .i64 e.o, .bool e.i])) (hg : w.grownBy w5 v.ownBlock) :
  StAt (w5.setCell ⟨s, 0, none⟩ v') B s v' (st ++ [e]) a b c ∧ Fr B s w (w5.setCell ⟨s, 0, none⟩ v') ∧ w5.cell? ⟨s, 0, none⟩ = some v ∧ w5.frozen? ⟨s, 0, none⟩ = false := by
 have hc5 : w5.heap[s]? = some (.cells #[v, .int .i64 a, .int .i64 b, .int .i64 c] 184 (0, 0)) := by
  rw [hg.block s h.lt h.ne.symm]; exact h.cell
 have hne : v'.ownBlock ≠ some s := by
  rcases hown.2 with ⟨rfl, _⟩ | ⟨g, cp, cur, rfl, _, hh, _⟩
  ·simp [Value.ownBlock]
  ·simp only [Value.ownBlock]
   intro e
   obtain rfl := Option.some.inj e
   rw [hc5] at hh
   simp at hh
 refine ⟨⟨by rw [Joins.block_setCell hc5]; rfl, ?_, h.low⟩, ⟨?_, ?_⟩, heap_cell hc5 0, heap_free hc5 0⟩
 ·have := row_set hown hne 0 v'
  rw [entsV_snoc]
  simpa [Ent.cells] using this
 ·exact ((Below.refl B w).grown hg (Nat.le_trans h.low (Nat.le_of_lt h.lt)) fun k hk => (h.row.lt k hk).1).setCell h.low _
 ·refine ((Lib.OthersKept.refl _ _ _).grown hg fun g hgg => ?_).setCell ⟨s, 0, none⟩ rfl _
  rcases h.row.2 with ⟨rfl, _⟩ | ⟨g', cp, cur, rfl, _, hh, _⟩
  ·simp [Value.ownBlock] at hgg
  ·simp only [Value.ownBlock, Option.some.injEq] at hgg
   subst hgg
   exact ⟨cur, _, hh⟩
def embedX (x : XS) (c : Int) : XS :=
 let n := nextL (topE x.st).l (if c = 14 ∨ c = 16 then 1 else 0)
 if freeX x n = true then { x with st := x.st ++ [⟨n, if c = 15 then 0 else if c = 16 then 1 else -1, false⟩] }
 else if x.isos = 0 then { x with embs := x.embs + 1 } else x
def beginX (x : XS) (odd : Int) : XS :=
 let n := nextL (topE x.st).l odd
 if freeX x n = true then { x with st := x.st ++ [⟨n, -1, true⟩], valid := x.valid + 1 } else { x with isos := x.isos + 1 }
theorem topE_snoc (st : List Ent) (e : Ent) : topE (st ++ [e]) = e := by simp [topE]
set_option maxRecDepth 100000 in
set_option maxHeartbeats 4000000 in
theorem begin_any (w : World) (B s : Nat) (v : Value) (x : XS) (odd : Int) (h : StAt w B s v x.st x.isos x.embs x.valid) (hne : x.st ≠ []) (hn : x.st.length ≤ 1000) (hl : 0 ≤ (topE x.st).l) (hl' : (topE x.st).l ≤ 1000)
  (hi : 0 ≤ x.isos ∧ x.isos ≤ 100000) (hv : 0 ≤ x.valid ∧ x.valid ≤ 100000) :
  Calls Tryz.prog 119 #[.pointer (some ⟨s, 0, none⟩), .int .i64 odd] w fun ev w' => ev = .returned (.tuple #[]) ∧ Fr B s w w' ∧ ∃ v', StAt w' B s v' (beginX x odd).st (beginX x odd).isos (beginX x odd).embs (beginX x odd).valid := by
 obtain ⟨i0, hi0, hz0, hz1, hz2⟩ := info_parts Tryz.infoEntry2
 obtain ⟨st, isos, embs, valid⟩ := x
 simp only at h hne hn hl hl' hi hv
 obtain ⟨st0, e, rfl⟩ : ∃ st0 e, st = st0 ++ [e] := ⟨st.dropLast, st.getLast hne, (List.dropLast_concat_getLast hne).symm⟩
 rw [topE_snoc] at hl hl'
 simp only [List.length_append, List.length_cons, List.length_nil] at hn
 have HN : Hid (Calls Tryz.prog 187 #[.pointer (some ⟨s, 0, none⟩), .int .i64 odd] w fun ev w' => ev = .returned (.int .i64 (nextL e.l odd)) ∧ Below w.heap.size w w') := next_any w B s v st0 e isos embs valid odd h (by omega) hl hl'
 obtain ⟨y, hy⟩ : ∃ y, y = beginX ⟨st0 ++ [e], isos, embs, valid⟩ odd := ⟨_, rfl⟩
 rw [← hy]
 have HY : Hid (y = if freeX ⟨st0 ++ [e], isos, embs, valid⟩ (nextL e.l odd) = true then ⟨(st0 ++ [e]) ++ [⟨nextL e.l odd, -1, true⟩], isos, embs, valid + 1⟩ else ⟨st0 ++ [e], isos + 1, embs, valid⟩) := by
  have := hy; unfold beginX at this; simp only [topE_snoc] at this; exact this
 have HH : Hid (StAt w B s v (st0 ++ [e]) isos embs valid) := h
 clear h hy hl hl'
 generalize nextL e.l odd = n at *
 go_enter Tryz.func119, Tryz.ntmps119
 go_wp2_with fail
 refine HN.out.mono ?_
 rintro ev w1 ⟨rfl, hb1⟩
 have HH1 : Hid (StAt w1 B s v (st0 ++ [e]) isos embs valid) := HH.out.below hb1
 have HF1 : Hid (Fr B s w w1) := Fr.of_below (Nat.le_trans HH.out.low (Nat.le_of_lt HH.out.lt)) hb1
 clear hb1 HN
 go_wp2_with fail
 refine (free_any w1 s v isos embs valid n (st0 ++ [e]) HH1.out.cell).mono ?_
 rintro ev w2 ⟨rfl, rfl⟩
 have c0 : w2.cell? ⟨s, 0, none⟩ = some v := heap_cell HH1.out.cell 0
 have c1 : w2.cell? ⟨s, 1, none⟩ = some (.int .i64 isos) := heap_cell HH1.out.cell 1
 have c3 : w2.cell? ⟨s, 3, none⟩ = some (.int .i64 valid) := heap_cell HH1.out.cell 3
 have f0 : w2.frozen? ⟨s, 0, none⟩ = false := heap_free HH1.out.cell 0
 have f1 : w2.frozen? ⟨s, 1, none⟩ = false := heap_free HH1.out.cell 1
 have f3 : w2.frozen? ⟨s, 3, none⟩ = false := heap_free HH1.out.cell 3
 cases hq : freeX ⟨st0 ++ [e], isos, embs, valid⟩ n
 ·have HY' : Hid (y = ⟨st0 ++ [e], isos + 1, embs, valid⟩) := by have := HY.out; rw [hq, if_neg (by decide)] at this; exact this
  clear hq HY
  go_wp2
  go_end0
  rw [HY'.out]
  exact ⟨rfl, HF1.out.trans (Fr.set HH1.out.low _ _), v, HH1.out.setIsos _⟩
 ·have HY' : Hid (y = ⟨(st0 ++ [e]) ++ [⟨n, -1, true⟩], isos, embs, valid + 1⟩) := by have := HY.out; rw [hq, if_pos rfl] at this; exact this
  clear hq HY
  have HH3 : Hid (StAt (w2.setCell ⟨s, 3, none⟩ (.int .i64 (valid + 1))) B s v (st0 ++ [e]) isos embs (valid + 1)) := HH1.out.setValid _
  have hbz : B ≤ w2.heap.size := Nat.le_trans HH1.out.low (Nat.le_of_lt HH1.out.lt)
  have hslt : s < w2.heap.size := HH1.out.lt
  have d0 : (w2.setCell ⟨s, 3, none⟩ (.int .i64 (valid + 1))).cell? ⟨s, 0, none⟩ = some v := heap_cell HH3.out.cell 0
  have hrow := HH3.out.row
  simp only [List.length_append, List.length_cons, List.length_nil] at hrow
  go_wp2_with (at_builtin; refine wpList_pushE _ rfl _ _ 182 rfl B 181 i0 (.agg #[.int .i64 0, .int .i64 0, .bool false]) 24 Tryz.underlying182 hi0 hz0 hz1 hz2 rfl (by decide) _ _ _ rfl hrow _ _ _ _ _ rfl (by simp) rfl rfl rfl (by omega) (by simp; omega) ?_)
  intro v' w5 hown5 hg5
  obtain ⟨gg, cc, rfl⟩ := own_shape hown5
  obtain ⟨hS, hF, hc5, hf5⟩ := HH3.out.push (e := ⟨n, -1, true⟩) (by simpa using hown5) hg5
  have HS : Hid (StAt (w5.setCell ⟨s, 0, none⟩ _) B s _ ((st0 ++ [e]) ++ [⟨n, -1, true⟩]) isos embs (valid + 1)) := hS
  have HF : Hid (Fr B s w (w5.setCell ⟨s, 0, none⟩ _)) := (HF1.out.trans (Fr.set HH1.out.low _ _)).trans hF
  clear hS hF hown5 hg5 hrow d0
  go_wp2
  go_end0
  rw [HY'.out]
  exact ⟨rfl, HF.out, _, HS.out⟩
end Go.Proofs.YtkbinfhclaafhaaGreatDoor
namespace Go.Proofs.YtkbinfhclaafhaaGreatDoor
open Go.RowKit
theorem StAt.push3 {w w5 : World} {B s : Nat} {v v' : Value} {st : List Ent} {a b c l o : Int} {i : Bool} {m : Nat} (h : StAt w B s v st a b c) (hm : m = st.length + 1) (hown : w5.ownsRow B 181 3 v' m (entsV st ++ [.int .i64 l, .int .i64 o, .bool i])) (hg : w.grownBy w5 v.ownBlock) :
  StAt (w5.setCell ⟨s, 0, none⟩ v') B s v' (st ++ [⟨l, o, i⟩]) a b c ∧ Fr B s w (w5.setCell ⟨s, 0, none⟩ v') ∧ w5.cell? ⟨s, 0, none⟩ = some v ∧ w5.frozen? ⟨s, 0, none⟩ = false := by
 subst hm; exact h.push (e := ⟨l, o, i⟩) hown hg
set_option maxRecDepth 100000 in
set_option maxHeartbeats 8000000 in
theorem embed_any (w : World) (B s : Nat) (v : Value) (x : XS) (c : Int) (h : StAt w B s v x.st x.isos x.embs x.valid) (hne : x.st ≠ []) (hn : x.st.length ≤ 1000) (hl : 0 ≤ (topE x.st).l) (hl' : (topE x.st).l ≤ 1000)
  (hi : 0 ≤ x.embs ∧ x.embs ≤ 100000) (hcc : c = 13 ∨ c = 14 ∨ c = 15 ∨ c = 16) :
  Calls Tryz.prog 118 #[.pointer (some ⟨s, 0, none⟩), .int .i64 c] w fun ev w' => ev = .returned (.tuple #[]) ∧ Fr B s w w' ∧ ∃ v', StAt w' B s v' (embedX x c).st (embedX x c).isos (embedX x c).embs (embedX x c).valid := by
 obtain ⟨i0, hi0, hz0, hz1, hz2⟩ := info_parts Tryz.infoEntry2
 obtain ⟨st, isos, embs, valid⟩ := x
 simp only at h hne hn hl hl' hi
 obtain ⟨st0, e, rfl⟩ : ∃ st0 e, st = st0 ++ [e] := ⟨st.dropLast, st.getLast hne, (List.dropLast_concat_getLast hne).symm⟩
 rw [topE_snoc] at hl hl'
 simp only [List.length_append, List.length_cons, List.length_nil] at hn
 have HH : Hid (StAt w B s v (st0 ++ [e]) isos embs valid) := h
 have key : ∀ (odd over : Int), (if c = 14 ∨ c = 16 then (1 : Int) else 0) = odd → (if c = 15 then (0 : Int) else if c = 16 then 1 else -1) = over →
   Hid (Calls Tryz.prog 187 #[.pointer (some ⟨s, 0, none⟩), .int .i64 odd] w fun ev w' => ev = .returned (.int .i64 (nextL e.l odd)) ∧ Below w.heap.size w w') ∧
   Hid (embedX ⟨st0 ++ [e], isos, embs, valid⟩ c = if freeX ⟨st0 ++ [e], isos, embs, valid⟩ (nextL e.l odd) = true then ⟨(st0 ++ [e]) ++ [⟨nextL e.l odd, over, false⟩], isos, embs, valid⟩ else if isos = 0 then ⟨st0 ++ [e], isos, embs + 1, valid⟩ else ⟨st0 ++ [e], isos, embs, valid⟩) := by
  intro odd over h1 h2
  refine ⟨next_any w B s v st0 e isos embs valid odd h (by omega) hl hl', ?_⟩
  show embedX _ c = _
  unfold embedX
  simp only [topE_snoc, h1, h2]
 obtain ⟨y, hy⟩ : ∃ y, y = embedX ⟨st0 ++ [e], isos, embs, valid⟩ c := ⟨_, rfl⟩
 rw [← hy]
 rw [← hy] at key
 clear h hy hl hl'
 rcases hcc with rfl | rfl | rfl | rfl
 all_goals
  obtain ⟨HN, HY⟩ := key _ _ rfl rfl
  simp only [Int.reduceEq, or_false, or_true, or_self, if_true, if_false] at HN HY
  clear key
  generalize nextL e.l _ = n at *
  go_enter Tryz.func118, Tryz.ntmps118
  go_wp2_with fail
  refine HN.out.mono ?_
  rintro ev w1 ⟨rfl, hb1⟩
  have HH1 : Hid (StAt w1 B s v (st0 ++ [e]) isos embs valid) := HH.out.below hb1
  have HF1 : Hid (Fr B s w w1) := Fr.of_below (Nat.le_trans HH.out.low (Nat.le_of_lt HH.out.lt)) hb1
  clear hb1 HN
  go_wp2_with fail
  refine (free_any w1 s v isos embs valid n (st0 ++ [e]) HH1.out.cell).mono ?_
  rintro ev w2 ⟨rfl, rfl⟩
  have c0 : w2.cell? ⟨s, 0, none⟩ = some v := heap_cell HH1.out.cell 0
  have c1 : w2.cell? ⟨s, 1, none⟩ = some (.int .i64 isos) := heap_cell HH1.out.cell 1
  have c2 : w2.cell? ⟨s, 2, none⟩ = some (.int .i64 embs) := heap_cell HH1.out.cell 2
  have f0 : w2.frozen? ⟨s, 0, none⟩ = false := heap_free HH1.out.cell 0
  have f2 : w2.frozen? ⟨s, 2, none⟩ = false := heap_free HH1.out.cell 2
  cases hq : freeX ⟨st0 ++ [e], isos, embs, valid⟩ n
  ·by_cases hz : isos = 0
   ·have HY' : Hid (y = ⟨st0 ++ [e], isos, embs + 1, valid⟩) := by have := HY.out; rw [hq, if_neg (by decide), if_pos hz] at this; exact this
    have hz' : (isos == 0) = true := by simpa using hz
    clear hq HY hz
    go_wp2
    go_end0
    rw [HY'.out]
    exact ⟨rfl, HF1.out.trans (Fr.set HH1.out.low _ _), v, HH1.out.setEmbs _⟩
   ·have HY' : Hid (y = ⟨st0 ++ [e], isos, embs, valid⟩) := by have := HY.out; rw [hq, if_neg (by decide), if_neg hz] at this; exact this
    have hz' : (isos == 0) = false := by simpa using hz
    clear hq HY hz
    go_wp2
    go_end0
    rw [HY'.out]
    exact ⟨rfl, HF1.out, v, HH1.out⟩
  ·have HY1 := HY.out
   rw [hq, if_pos rfl] at HY1
   have HY' : Hid (y = _) := HY1
   have hlen : (st0 ++ [e]).length ≤ 1001 := by simp; omega
   have hbz : B ≤ w2.heap.size := Nat.le_trans HH1.out.low (Nat.le_of_lt HH1.out.lt)
   have hslt : s < w2.heap.size := HH1.out.lt
   have hrow := HH1.out.row
   clear hq HY1 HY
   go_wp2_with (at_builtin; refine wpList_pushE _ rfl _ _ 182 rfl B 181 i0 (.agg #[.int .i64 0, .int .i64 0, .bool false]) 24 Tryz.underlying182 hi0 hz0 hz1 hz2 rfl (by decide) _ _ _ rfl hrow _ _ _ _ _ rfl rfl rfl rfl rfl (by omega) (by omega) ?_)
   intro v' w5 hown5 hg5
   obtain ⟨gg, cc, rfl⟩ := own_shape hown5
   obtain ⟨hS, hF, hc5, hf5⟩ := HH1.out.push3 (by simp) hown5 hg5
   have HS : Hid _ := hS
   have HF : Hid (Fr B s w _) := HF1.out.trans hF
   clear hS hF hown5 hg5 hrow
   go_wp2
   go_end0
   rw [HY'.out]
   exact ⟨rfl, HF.out, _, HS⟩
end Go.Proofs.YtkbinfhclaafhaaGreatDoor
namespace Go.Proofs.YtkbinfhclaafhaaGreatDoor
open Go.RowKit
theorem StAt.drew {w : World} {B s : Nat} {v : Value} {st : List Ent} {a b c : Int} (h : StAt w B s v st a b c) : StAt w.drew B s v st a b c := ⟨h.cell, h.row, h.low⟩
theorem Fr.drew {B s : Nat} {a w : World} (h : Fr B s a w) : Fr B s a w.drew := ⟨h.below.drew, h.oth⟩
theorem StAt.shape {w : World} {B s : Nat} {v : Value} {st : List Ent} {e : Ent} {a b c : Int} (h : StAt w B s v (st ++ [e]) a b c) : ∃ g cap, v = .slice (some ⟨g, 0, none⟩) (st.length + 1) cap ∧ st.length + 1 ≤ cap := by
 rcases h.row.2 with ⟨_, h0⟩ | ⟨g, cp, cur, rfl, _, _, hc, _⟩
 ·simp at h0
 ·exact ⟨g, cp, by simp, by simpa using hc⟩
theorem StAt.popped {w : World} {B s g cap : Nat} {st : List Ent} {e : Ent} {a b c : Int} (h : StAt w B s (.slice (some ⟨g, 0, none⟩) (st.length + 1) cap) (st ++ [e]) a b c) :
  StAt (w.setCell ⟨s, 0, none⟩ (.slice (some ⟨g, 0, none⟩) st.length cap)) B s (.slice (some ⟨g, 0, none⟩) st.length cap) st a b c := by
 have hr := h.row
 rw [entsV_snoc] at hr
 have hr' : w.ownsRow B 181 3 (.slice (some ⟨g, 0, none⟩) (st.length + 1) cap) (st.length + 1) (entsV st ++ e.cells) := by simpa using hr
 have hp := ownsRow_pop (entsV_length st) hr'
 have hne : (Value.slice (some ⟨g, 0, none⟩) st.length cap).ownBlock ≠ some s := h.ne
 exact ⟨by rw [Joins.block_setCell h.cell]; rfl, row_set hp hne _ _, h.low⟩
def popIso (st : List Ent) : List Ent := ((st.reverse.dropWhile fun e => !e.i).drop 1).reverse
theorem popIso_iso (st : List Ent) (e : Ent) (h : e.i = true) : popIso (st ++ [e]) = st := by simp [popIso, h]
theorem popIso_not (st : List Ent) (e : Ent) (h : e.i = false) : popIso (st ++ [e]) = popIso st := by simp [popIso, h]
def endX (x : XS) : XS :=
 if 0 < x.isos then { x with isos := x.isos - 1 }
 else if x.valid = 0 then x
 else { x with embs := 0, st := popIso x.st, valid := x.valid - 1 }
def popX (x : XS) : XS :=
 if 0 < x.isos then x
 else if 0 < x.embs then { x with embs := x.embs - 1 }
 else if (topE x.st).i = false ∧ 1 < x.st.length then { x with st := x.st.dropLast } else x
set_option maxRecDepth 100000 in
set_option maxHeartbeats 8000000 in
theorem end_deep (w : World) (B s : Nat) (v : Value) (x : XS) (h : StAt w B s v x.st x.isos x.embs x.valid) (hn : x.st.length ≤ 1000) (h0 : x.isos = 0) (hv : 1 ≤ x.valid ∧ x.valid ≤ 100000) (hex : ∃ e ∈ x.st, e.i = true) :
  Calls Tryz.prog 116 #[.pointer (some ⟨s, 0, none⟩)] w fun ev w' => ev = .returned (.tuple #[]) ∧ Fr B s w w' ∧ ∃ v', StAt w' B s v' (popIso x.st) x.isos 0 (x.valid - 1) := by
 obtain ⟨st, isos, embs, valid⟩ := x
 simp only at h hn h0 hv hex ⊢
 subst h0
 have HH : Hid (StAt w B s v st 0 embs valid) := h
 have HX : Hid (∃ e ∈ st, e.i = true) := hex
 have c1 : w.cell? ⟨s, 1, none⟩ = some (.int .i64 0) := heap_cell h.cell 1
 have c2 : w.cell? ⟨s, 2, none⟩ = some (.int .i64 embs) := heap_cell h.cell 2
 have c3 : w.cell? ⟨s, 3, none⟩ = some (.int .i64 valid) := heap_cell h.cell 3
 have f2 : w.frozen? ⟨s, 2, none⟩ = false := heap_free h.cell 2
 have hv' : (valid == 0) = false := by simp; omega
 have HH1 : Hid (StAt (w.setCell ⟨s, 2, none⟩ (.int .i64 0)) B s v st 0 0 valid) := h.setEmbs 0
 have HF1 : Hid (Fr B s w (w.setCell ⟨s, 2, none⟩ (.int .i64 0))) := Fr.set h.low _ _
 clear h hex
 go_enter Tryz.func116, Tryz.ntmps116
 go_wp2
 clear c1 c2 c3 f2
 go_loopg [22] (st.length + 1) (fun gk _ wr => ∃ (v' : Value) (st' : List Ent), StAt wr B s v' st' 0 0 valid ∧ Fr B s w wr ∧ popIso st' = popIso st ∧ (∃ e ∈ st', e.i = true) ∧ st'.length < gk ∧ st'.length ≤ 1000)
 case atStart => exact ⟨v, st, HH1.out, HF1.out, rfl, HX.out, by omega, hn⟩
 case round =>
  obtain ⟨v', st', hS, hF, hp, hex, hg, hl⟩ := hrel
  clear HH1 HF1 HH HX
  have hne : st' ≠ [] := by rintro rfl; simp at hex
  obtain ⟨st0, e, rfl⟩ : ∃ st0 e, st' = st0 ++ [e] := ⟨st'.dropLast, st'.getLast hne, (List.dropLast_concat_getLast hne).symm⟩
  simp only [List.length_append, List.length_cons, List.length_nil] at hg hl
  have HT : Hid (Calls Tryz.prog 117 #[.pointer (some ⟨s, 0, none⟩)] wr fun ev w' => ev = .returned (.agg #[.int .i64 e.l, .int .i64 e.o, .bool e.i]) ∧ Below wr.heap.size wr w') := top_any wr B s v' st0 e 0 0 valid hS (by omega)
  have HS : Hid (StAt wr B s v' (st0 ++ [e]) 0 0 valid) := hS
  have HF : Hid (Fr B s w wr) := hF
  have HP : Hid (popIso (st0 ++ [e]) = popIso st) := hp
  have HX : Hid (∃ e' ∈ st0 ++ [e], e'.i = true) := hex
  have fI := Tryz.entI
  clear hS hF hp hex hne
  obtain ⟨el, eo, ei⟩ := e
  cases ei
  ·have HP' : Hid (popIso st0 = popIso st) := by have := HP.out; rw [popIso_not _ _ rfl] at this; exact this
   have HX' : Hid (∃ e' ∈ st0, e'.i = true) := by
    obtain ⟨e', hm, hi⟩ := HX.out
    rcases List.mem_append.1 hm with hm | hm
    ·exact ⟨e', hm, hi⟩
    ·rw [List.mem_singleton.1 hm] at hi; cases hi
   go_wp2_with fail
   refine HT.out.mono ?_
   rintro ev w1 ⟨rfl, hb1⟩
   have HS1 := HS.out.below hb1
   have HF1 : Hid (Fr B s w w1) := HF.out.trans (Fr.of_below (Nat.le_trans HS.out.low (Nat.le_of_lt HS.out.lt)) hb1)
   obtain ⟨gg, cp, rfl, hcp⟩ := HS1.shape
   have c0 : w1.cell? ⟨s, 0, none⟩ = some (.slice (some ⟨gg, 0, none⟩) (st0.length + 1) cp) := heap_cell HS1.cell 0
   have f0 : w1.frozen? ⟨s, 0, none⟩ = false := heap_free HS1.cell 0
   have HS2 : Hid (StAt (w1.setCell ⟨s, 0, none⟩ (.slice (some ⟨gg, 0, none⟩) st0.length cp)) B s (.slice (some ⟨gg, 0, none⟩) st0.length cp) st0 0 0 valid) := HS1.popped
   have HF2 : Hid (Fr B s w (w1.setCell ⟨s, 0, none⟩ (.slice (some ⟨gg, 0, none⟩) st0.length cp))) := HF1.out.trans (Fr.set HS1.low _ _)
   obtain ⟨m, hm⟩ : ∃ m, m = st0.length := ⟨_, rfl⟩
   have HM : Hid (m = st0.length) := hm
   rw [← hm] at c0 HS2 HF2 hcp hg hl
   clear HS1 hb1 HT hm
   go_wp2
   go_region
   go_wp2
   go_roundg (m + 1)
   case measure => omega
   case rel => exact ⟨_, st0, HS2.out.drew, HF2.out.drew, HP'.out, HX'.out, by rw [HM.out]; omega, by rw [← HM.out]; omega⟩
  ·have HP' : Hid (st0 = popIso st) := by have := HP.out; rw [popIso_iso _ _ rfl] at this; exact this
   go_wp2_with fail
   refine HT.out.mono ?_
   rintro ev w1 ⟨rfl, hb1⟩
   have HS1 := HS.out.below hb1
   have HF1 : Hid (Fr B s w w1) := HF.out.trans (Fr.of_below (Nat.le_trans HS.out.low (Nat.le_of_lt HS.out.lt)) hb1)
   obtain ⟨gg, cp, rfl, hcp⟩ := HS1.shape
   have c0 : w1.cell? ⟨s, 0, none⟩ = some (.slice (some ⟨gg, 0, none⟩) (st0.length + 1) cp) := heap_cell HS1.cell 0
   have f0 : w1.frozen? ⟨s, 0, none⟩ = false := heap_free HS1.cell 0
   have HS2 : Hid (StAt (w1.setCell ⟨s, 0, none⟩ (.slice (some ⟨gg, 0, none⟩) st0.length cp)) B s (.slice (some ⟨gg, 0, none⟩) st0.length cp) st0 0 0 valid) := HS1.popped
   have HF2 : Hid (Fr B s w (w1.setCell ⟨s, 0, none⟩ (.slice (some ⟨gg, 0, none⟩) st0.length cp))) := HF1.out.trans (Fr.set HS1.low _ _)
   obtain ⟨m, hm⟩ : ∃ m, m = st0.length := ⟨_, rfl⟩
   have HM : Hid (m = st0.length) := hm
   rw [← hm] at c0 HS2 HF2 hcp hg hl
   clear HS1 hb1 HT hm
   go_wp2
   go_region
   have c3 : ((w1.setCell ⟨s, 0, none⟩ (.slice (some ⟨gg, 0, none⟩) m cp))).drew.cell? ⟨s, 3, none⟩ = some (.int .i64 valid) := heap_cell HS2.out.drew.cell 3
   have f3 : ((w1.setCell ⟨s, 0, none⟩ (.slice (some ⟨gg, 0, none⟩) m cp))).drew.frozen? ⟨s, 3, none⟩ = false := heap_free HS2.out.drew.cell 3
   go_wp2
   go_end0
   exact ⟨rfl, HF2.out.drew.trans (Fr.set HS2.out.low _ _), _, HP'.out ▸ HS2.out.drew.setValid _⟩
end Go.Proofs.YtkbinfhclaafhaaGreatDoor
namespace Go.Proofs.YtkbinfhclaafhaaGreatDoor
open Go.RowKit
def XBig (x : XS) : Prop := 0 ≤ x.isos ∧ x.isos ≤ 100000 ∧ 0 ≤ x.embs ∧ x.embs ≤ 100000 ∧ 0 ≤ x.valid ∧ x.valid ≤ 100000
set_option maxRecDepth 100000 in
set_option maxHeartbeats 8000000 in
theorem end_any (w : World) (B s : Nat) (v : Value) (x : XS) (h : StAt w B s v x.st x.isos x.embs x.valid) (hn : x.st.length ≤ 1000) (hbig : XBig x) (hex : 1 ≤ x.valid → ∃ e ∈ x.st, e.i = true) :
  Calls Tryz.prog 116 #[.pointer (some ⟨s, 0, none⟩)] w fun ev w' => ev = .returned (.tuple #[]) ∧ Fr B s w w' ∧ ∃ v', StAt w' B s v' (endX x).st (endX x).isos (endX x).embs (endX x).valid := by
 obtain ⟨hi0, hi1, he0, he1, hv0, hv1⟩ := hbig
 by_cases h0 : 0 < x.isos
 ·have HY : Hid (endX x = ⟨x.st, x.isos - 1, x.embs, x.valid⟩) := by unfold endX; rw [if_pos h0]; rfl
  obtain ⟨st, isos, embs, valid⟩ := x
  simp only at h hn h0 hi1 hv0 hv1 ⊢
  have c1 : w.cell? ⟨s, 1, none⟩ = some (.int .i64 isos) := heap_cell h.cell 1
  have f1 : w.frozen? ⟨s, 1, none⟩ = false := heap_free h.cell 1
  have HH : Hid (StAt w B s v st isos embs valid) := h
  clear h hex
  go_enter Tryz.func116, Tryz.ntmps116
  go_wp2
  (try simp only [Exit.inBlock, Exit.then]); refine bodyPost_ret (results_none rfl _ _ _) rfl ?_
  rw [HY.out]
  exact ⟨rfl, Fr.set HH.out.low _ _, v, HH.out.setIsos _⟩
 ·have hz : x.isos = 0 := by omega
  by_cases hv : x.valid = 0
  ·have HY : Hid (endX x = x) := by show endX x = x; unfold endX; rw [if_neg h0, if_pos hv]
   obtain ⟨st, isos, embs, valid⟩ := x
   simp only at h hn hz hv
   subst hz hv
   have c1 : w.cell? ⟨s, 1, none⟩ = some (.int .i64 0) := heap_cell h.cell 1
   have c3 : w.cell? ⟨s, 3, none⟩ = some (.int .i64 0) := heap_cell h.cell 3
   have HH : Hid (StAt w B s v st 0 embs 0) := h
   clear h hex h0 hi0 hi1 hv0 hv1
   go_enter Tryz.func116, Tryz.ntmps116
   go_wp2
   (try simp only [Exit.inBlock, Exit.then]); refine bodyPost_ret (results_none rfl _ _ _) rfl ?_
   rw [HY.out]
   exact ⟨rfl, Fr.refl _ _ _, v, HH.out⟩
  ·have hy : endX x = { x with embs := 0, st := popIso x.st, valid := x.valid - 1 } := by unfold endX; rw [if_neg h0, if_neg hv]
   rw [hy]
   exact end_deep w B s v x h hn hz ⟨by omega, hv1⟩ (hex (by omega))
set_option maxRecDepth 100000 in
set_option maxHeartbeats 8000000 in
theorem pop_any (w : World) (B s : Nat) (v : Value) (x : XS) (h : StAt w B s v x.st x.isos x.embs x.valid) (hne : x.st ≠ []) (hn : x.st.length ≤ 1000) (hbig : XBig x) :
  Calls Tryz.prog 120 #[.pointer (some ⟨s, 0, none⟩)] w fun ev w' => ev = .returned (.tuple #[]) ∧ Fr B s w w' ∧ ∃ v', StAt w' B s v' (popX x).st (popX x).isos (popX x).embs (popX x).valid := by
 obtain ⟨hi0, hi1, he0, he1, hv0, hv1⟩ := hbig
 by_cases h0 : 0 < x.isos
 ·have HY : Hid (popX x = x) := by show popX x = x; unfold popX; rw [if_pos h0]
  obtain ⟨st, isos, embs, valid⟩ := x
  simp only at h hn h0 hi1
  have c1 : w.cell? ⟨s, 1, none⟩ = some (.int .i64 isos) := heap_cell h.cell 1
  have HH : Hid (StAt w B s v st isos embs valid) := h
  clear h hne
  go_enter Tryz.func120, Tryz.ntmps120
  go_wp2
  go_end0
  rw [HY.out]
  exact ⟨rfl, Fr.refl _ _ _, v, HH.out⟩
 ·by_cases he : 0 < x.embs
  ·have HY : Hid (popX x = { x with embs := x.embs - 1 }) := by show popX x = _; unfold popX; rw [if_neg h0, if_pos he]
   obtain ⟨st, isos, embs, valid⟩ := x
   simp only at h hn h0 hi0 hi1 he he1 HY ⊢
   obtain rfl : isos = 0 := by omega
   have c1 : w.cell? ⟨s, 1, none⟩ = some (.int .i64 0) := heap_cell h.cell 1
   have c2 : w.cell? ⟨s, 2, none⟩ = some (.int .i64 embs) := heap_cell h.cell 2
   have f2 : w.frozen? ⟨s, 2, none⟩ = false := heap_free h.cell 2
   have HH : Hid (StAt w B s v st 0 embs valid) := h
   clear h hne h0 hi0 hi1
   go_enter Tryz.func120, Tryz.ntmps120
   go_wp2
   go_end0
   rw [HY.out]
   exact ⟨rfl, Fr.set HH.out.low _ _, v, HH.out.setEmbs _⟩
  ·have hy : popX x = if (topE x.st).i = false ∧ 1 < x.st.length then { x with st := x.st.dropLast } else x := by unfold popX; rw [if_neg h0, if_neg he]
   obtain ⟨st, isos, embs, valid⟩ := x
   simp only at h hn h0 hi0 hi1 he he0 he1 hy hne ⊢
   obtain rfl : isos = 0 := by omega
   obtain rfl : embs = 0 := by omega
   obtain ⟨st0, e, rfl⟩ : ∃ st0 e, st = st0 ++ [e] := ⟨st.dropLast, st.getLast hne, (List.dropLast_concat_getLast hne).symm⟩
   simp only [topE_snoc, List.dropLast_concat, List.length_append, List.length_cons, List.length_nil] at hy hn
   have HT : Hid (Calls Tryz.prog 117 #[.pointer (some ⟨s, 0, none⟩)] w fun ev w' => ev = .returned (.agg #[.int .i64 e.l, .int .i64 e.o, .bool e.i]) ∧ Below w.heap.size w w') := top_any w B s v st0 e 0 0 valid h (by omega)
   have c1 : w.cell? ⟨s, 1, none⟩ = some (.int .i64 0) := heap_cell h.cell 1
   have c2 : w.cell? ⟨s, 2, none⟩ = some (.int .i64 0) := heap_cell h.cell 2
   have HH : Hid (StAt w B s v (st0 ++ [e]) 0 0 valid) := h
   have HY : Hid (popX ⟨st0 ++ [e], 0, 0, valid⟩ = if e.i = false ∧ 1 < st0.length + (0 + 1) then ⟨st0, 0, 0, valid⟩ else ⟨st0 ++ [e], 0, 0, valid⟩) := hy
   have fI := Tryz.entI
   obtain ⟨y, hyy⟩ : ∃ y, y = popX ⟨st0 ++ [e], 0, 0, valid⟩ := ⟨_, rfl⟩
   rw [← hyy] at HY ⊢
   clear h hne h0 hi0 hi1 he he0 he1 hy hyy
   obtain ⟨el, eo, ei⟩ := e
   cases ei
   ·by_cases hm : 0 < st0.length
    ·have HY' : Hid (y = ⟨st0, 0, 0, valid⟩) := by have := HY.out; rw [if_pos ⟨rfl, by omega⟩] at this; exact this
     go_enter Tryz.func120, Tryz.ntmps120
     go_wp2_with fail
     refine HT.out.mono ?_
     rintro ev w1 ⟨rfl, hb1⟩
     have HS1 := HH.out.below hb1
     have HF1 : Hid (Fr B s w w1) := Fr.of_below (Nat.le_trans HH.out.low (Nat.le_of_lt HH.out.lt)) hb1
     obtain ⟨gg, cp, rfl, hcp⟩ := HS1.shape
     have d0 : w1.cell? ⟨s, 0, none⟩ = some (.slice (some ⟨gg, 0, none⟩) (st0.length + 1) cp) := heap_cell HS1.cell 0
     have g0 : w1.frozen? ⟨s, 0, none⟩ = false := heap_free HS1.cell 0
     have HS2 : Hid (StAt (w1.setCell ⟨s, 0, none⟩ (.slice (some ⟨gg, 0, none⟩) st0.length cp)) B s (.slice (some ⟨gg, 0, none⟩) st0.length cp) st0 0 0 valid) := HS1.popped
     have HF2 : Hid (Fr B s w (w1.setCell ⟨s, 0, none⟩ (.slice (some ⟨gg, 0, none⟩) st0.length cp))) := HF1.out.trans (Fr.set HS1.low _ _)
     generalize st0.length = m at *
     clear HS1 hb1 HT c1 c2 HY
     go_wp2
     go_region
     go_wp2
     go_end0
     rw [HY'.out]
     exact ⟨rfl, HF2.out.drew, _, HS2.out.drew⟩
    ·have HY' : Hid (y = ⟨st0 ++ [⟨el, eo, false⟩], 0, 0, valid⟩) := by have := HY.out; rw [if_neg (by omega)] at this; exact this
     have hm0 : st0.length = 0 := by omega
     go_enter Tryz.func120, Tryz.ntmps120
     go_wp2_with fail
     refine HT.out.mono ?_
     rintro ev w1 ⟨rfl, hb1⟩
     have HS1 : Hid _ := HH.out.below hb1
     have HF1 : Hid (Fr B s w w1) := Fr.of_below (Nat.le_trans HH.out.low (Nat.le_of_lt HH.out.lt)) hb1
     obtain ⟨gg, cp, rfl, hcp⟩ := HS1.out.shape
     have d0 : w1.cell? ⟨s, 0, none⟩ = some (.slice (some ⟨gg, 0, none⟩) (0 + 1) cp) := by have := heap_cell HS1.out.cell 0; rw [hm0] at this; exact this
     clear hb1 HT c1 c2 HY hm hm0
     go_wp2
     go_end0
     rw [HY'.out]
     exact ⟨rfl, HF1.out, _, HS1.out⟩
   ·have HY' : Hid (y = ⟨st0 ++ [⟨el, eo, true⟩], 0, 0, valid⟩) := by have := HY.out; rw [if_neg (by simp)] at this; exact this
    go_enter Tryz.func120, Tryz.ntmps120
    go_wp2_with fail
    refine HT.out.mono ?_
    rintro ev w1 ⟨rfl, hb1⟩
    have HS1 : Hid _ := HH.out.below hb1
    have HF1 : Hid (Fr B s w w1) := Fr.of_below (Nat.le_trans HH.out.low (Nat.le_of_lt HH.out.lt)) hb1
    clear hb1 HT c1 c2 HY
    go_wp2
    go_end0
    rw [HY'.out]
    exact ⟨rfl, HF1.out, _, HS1.out⟩
end Go.Proofs.YtkbinfhclaafhaaGreatDoor
namespace Go.Proofs.YtkbinfhclaafhaaGreatDoor
def leftB (c : Int) : Bool := c != 9 && (decide (c < 13) || decide (17 < c))
def xPre (x : XS) (c : Int) : XS := if c = 21 then endX x else x
def fsiOdd (cs : List Int) (i : Nat) : Int := found ((cs.take (mt cs i)).drop (i + 1))
def xPost (cs : List Int) (i : Nat) (x : XS) (c : Int) : XS :=
 if c = 13 ∨ c = 14 ∨ c = 15 ∨ c = 16 then embedX x c else if c = 18 then beginX x 0 else if c = 19 then beginX x 1
 else if c = 20 then beginX x (fsiOdd cs i) else if c = 17 then popX x else x
def xAt (cs : List Int) (para : Int) : Nat → XS
 | 0 => ⟨[⟨para, -1, false⟩], 0, 0, 0⟩
 | i + 1 => xPost cs i (xPre (xAt cs para i) (cs.getD i 0)) (cs.getD i 0)
def xTop (cs : List Int) (para : Int) (i : Nat) : Ent := topE (xPre (xAt cs para i) (cs.getD i 0)).st
def xLevels (cs : List Int) (para : Int) : List Int := (List.range cs.length).map fun i => (xTop cs para i).l
def kindOf (c : Int) (e : Ent) : Int := if leftB c = true ∧ 0 ≤ e.o then e.o else c
def xKinds (cs : List Int) (para : Int) : List Int := (List.range cs.length).map fun i => kindOf (cs.getD i 0) (xTop cs para i)
def xLeft (cs : List Int) : List Bool := cs.map leftB
structure XOk (m : Int) (x : XS) : Prop where
 ne : x.st ≠ []
 lev : ∀ (j : Nat) (e : Ent), x.st[j]? = some e → (j : Int) ≤ e.l ∧ e.l ≤ 125
 hd : ∀ e, x.st[0]? = some e → e.i = false
 cnt : x.valid = (x.st.filter (·.i)).length
 isos : 0 ≤ x.isos ∧ x.isos ≤ m
 embs : 0 ≤ x.embs ∧ x.embs ≤ m
theorem XOk.len {m : Int} {x : XS} (h : XOk m x) : x.st.length ≤ 126 := by
 have hne := h.ne
 have h1 : x.st.length - 1 < x.st.length := by have := List.length_pos_iff.2 hne; omega
 have := h.lev (x.st.length - 1) _ (List.getElem?_eq_getElem h1)
 omega
theorem XOk.top {m : Int} {x : XS} (h : XOk m x) : ((x.st.length : Int) - 1 ≤ (topE x.st).l) ∧ 0 ≤ (topE x.st).l ∧ (topE x.st).l ≤ 125 := by
 have hne := h.ne
 have h0 := List.length_pos_iff.2 hne
 have h1 : x.st.length - 1 < x.st.length := by omega
 have hl := h.lev (x.st.length - 1) _ (List.getElem?_eq_getElem h1)
 have e : topE x.st = x.st[x.st.length - 1] := by
  unfold topE
  rw [List.getLastD_eq_getLast?, List.getLast?_eq_getElem?, List.getElem?_eq_getElem h1]; rfl
 rw [e]
 omega
theorem XOk.big {m : Int} {x : XS} (h : XOk m x) (hm : m ≤ 100000) : XBig x := by
 have h1 := h.isos
 have h2 := h.embs
 have h3 := h.cnt
 have h4 := h.len
 have h5 := List.length_filter_le (·.i) x.st
 refine ⟨h1.1, by omega, h2.1, by omega, by omega, by omega⟩
theorem XOk.exIso {m : Int} {x : XS} (h : XOk m x) (hv : 1 ≤ x.valid) : ∃ e ∈ x.st, e.i = true := by
 have h3 := h.cnt
 have : 0 < (x.st.filter (·.i)).length := by omega
 obtain ⟨e, he⟩ := List.exists_mem_of_length_pos this
 exact ⟨e, (List.mem_filter.1 he).1, (List.mem_filter.1 he).2⟩
theorem XOk.start (para : Int) (h : 0 ≤ para ∧ para ≤ 125) : XOk 0 ⟨[⟨para, -1, false⟩], 0, 0, 0⟩ :=
 ⟨by simp, fun j e he => by
  match j, he with
  | 0, he => simp at he; subst he; exact ⟨by simp; omega, h.2⟩, fun e he => by simp at he; subst he; rfl, by simp, by simp, by simp⟩
theorem XOk.mono {m m' : Int} {x : XS} (h : XOk m x) (hm : m ≤ m') : XOk m' x :=
 ⟨h.ne, h.lev, h.hd, h.cnt, ⟨h.isos.1, by have := h.isos.2; omega⟩, ⟨h.embs.1, by have := h.embs.2; omega⟩⟩
theorem XOk.push {m : Int} {x : XS} (h : XOk m x) (e : Ent) (hl : (topE x.st).l < e.l) (h5 : e.l ≤ 125) : XOk m ⟨x.st ++ [e], x.isos, x.embs, x.valid + (if e.i = true then 1 else 0)⟩ := by
 refine ⟨by simp, fun j e' he => ?_, fun e' he => ?_, ?_, h.isos, h.embs⟩
 ·simp only at he
  rcases Nat.lt_or_ge j x.st.length with hj | hj
  ·rw [List.getElem?_append_left hj] at he
   exact h.lev j e' he
  ·rw [List.getElem?_append_right hj] at he
   have : j - x.st.length = 0 := by
    rcases Nat.eq_zero_or_pos (j - x.st.length) with h' | h'
    ·exact h'
    ·rw [List.getElem?_eq_none (by simp; omega)] at he; cases he
   rw [this] at he
   simp at he
   subst he
   have := h.top.1
   omega
 ·simp only at he
  rw [List.getElem?_append_left (List.length_pos_iff.2 h.ne)] at he
  exact h.hd e' he
 ·simp only [List.filter_append, List.length_append]
  have := h.cnt
  rw [List.filter_cons, List.filter_nil]
  cases e.i <;> simp <;> omega
theorem nextL_ge (l odd : Int) : l < nextL l odd := by unfold nextL; split <;> omega
theorem XOk.embed {m : Int} {x : XS} (h : XOk m x) (c : Int) : XOk (m + 1) (embedX x c) := by
 unfold embedX
 simp only
 generalize (if c = 15 then (0 : Int) else if c = 16 then 1 else -1) = o
 generalize hn : nextL (topE x.st).l _ = n
 have hlt : (topE x.st).l < n := by rw [← hn]; exact nextL_ge _ _
 split
 ·rename_i hf
  unfold freeX at hf
  simp at hf
  have := (h.push ⟨n, o, false⟩ hlt (by simp; omega)).mono (m' := m + 1) (by omega)
  simpa using this
 ·split
  ·exact ⟨h.ne, h.lev, h.hd, h.cnt, ⟨h.isos.1, by have := h.isos.2; simp only; omega⟩, ⟨by have := h.embs.1; simp only; omega, by have := h.embs.2; simp only; omega⟩⟩
  ·exact h.mono (by omega)
theorem XOk.begin {m : Int} {x : XS} (h : XOk m x) (odd : Int) : XOk (m + 1) (beginX x odd) := by
 unfold beginX
 simp only
 generalize hn : nextL (topE x.st).l _ = n
 have hlt : (topE x.st).l < n := by rw [← hn]; exact nextL_ge _ _
 split
 ·rename_i hf
  unfold freeX at hf
  simp at hf
  have := (h.push ⟨n, -1, true⟩ hlt (by simp; omega)).mono (m' := m + 1) (by omega)
  simpa using this
 ·exact ⟨h.ne, h.lev, h.hd, h.cnt, ⟨by have := h.isos.1; simp only; omega, by have := h.isos.2; simp only; omega⟩, ⟨h.embs.1, by have := h.embs.2; simp only; omega⟩⟩
theorem XOk.pop {m : Int} {x : XS} (h : XOk m x) : XOk m (popX x) := by
 unfold popX
 split
 ·exact h
 ·split
  ·exact ⟨h.ne, h.lev, h.hd, h.cnt, h.isos, ⟨by simp only; omega, by have := h.embs.2; simp only; omega⟩⟩
  ·split
   ·rename_i hc
    obtain ⟨hi, hl⟩ := hc
    obtain ⟨st, isos, embs, valid⟩ := x
    obtain ⟨st0, e, rfl⟩ : ∃ st0 e, st = st0 ++ [e] := ⟨st.dropLast, st.getLast h.ne, (List.dropLast_concat_getLast h.ne).symm⟩
    simp only [topE_snoc, List.length_append, List.length_cons, List.length_nil] at hi hl
    have hne : st0 ≠ [] := by rintro rfl; simp at hl
    refine ⟨by simpa using hne, fun j e' he => ?_, fun e' he => ?_, ?_, h.isos, h.embs⟩
    ·simp only [List.dropLast_concat] at he
     refine h.lev j e' ?_
     have hj : j < st0.length := (List.getElem?_eq_some_iff.1 he).1
     simp only
     rw [List.getElem?_append_left hj]; exact he
    ·simp only [List.dropLast_concat] at he
     refine h.hd e' ?_
     simp only
     rw [List.getElem?_append_left (List.length_pos_iff.2 hne)]; exact he
    ·have := h.cnt
     simp only [List.filter_append, List.length_append, List.dropLast_concat] at this ⊢
     simpa [hi] using this
   ·exact h
theorem popIso_facts : ∀ (r : List Ent), (∃ e ∈ r, e.i = true) → ∃ a e b, r = a ++ e :: b ∧ e.i = true ∧ (∀ y ∈ a, y.i = false) ∧ (r.dropWhile fun e => !e.i) = e :: b
 | [], h => by simp at h
 | e :: r, h => by
  cases hi : e.i with
  | true => exact ⟨[], e, r, rfl, hi, by simp, by simp [hi]⟩
  | false =>
   have : ∃ y ∈ r, y.i = true := by
    obtain ⟨y, hy, hyi⟩ := h
    rcases List.mem_cons.1 hy with rfl | hy
    ·rw [hi] at hyi; cases hyi
    ·exact ⟨y, hy, hyi⟩
   obtain ⟨a, e', b, h1, h2, h3, h4⟩ := popIso_facts r this
   refine ⟨e :: a, e', b, by rw [h1]; rfl, h2, ?_, ?_⟩
   ·intro y hy
    rcases List.mem_cons.1 hy with rfl | hy
    ·exact hi
    ·exact h3 y hy
   ·rw [List.dropWhile_cons, hi]; simpa using h4
theorem popIso_split (st : List Ent) (h : ∃ e ∈ st, e.i = true) : ∃ e a, st = popIso st ++ e :: a ∧ e.i = true ∧ ∀ y ∈ a, y.i = false := by
 obtain ⟨a, e, b, h1, h2, h3, h4⟩ := popIso_facts st.reverse (by simpa using h)
 refine ⟨e, a.reverse, ?_, h2, by simpa using h3⟩
 have hp : popIso st = b.reverse := by unfold popIso; rw [h4]; rfl
 have : st = (a ++ e :: b).reverse := by rw [← h1, List.reverse_reverse]
 rw [hp]
 rw [this]
 simp
theorem XOk.end {m : Int} {x : XS} (h : XOk m x) : XOk m (endX x) := by
 unfold endX
 split
 ·exact ⟨h.ne, h.lev, h.hd, h.cnt, ⟨by simp only; omega, by have := h.isos.2; simp only; omega⟩, h.embs⟩
 ·split
  ·exact h
  ·rename_i h0 hv
   have hv1 : 1 ≤ x.valid := by have := h.cnt; omega
   obtain ⟨e, a, h1, h2, h3⟩ := popIso_split x.st (h.exIso hv1)
   have hne : popIso x.st ≠ [] := by
    intro hn
    rw [hn] at h1
    have := h.hd e (by rw [h1]; rfl)
    rw [h2] at this; cases this
   have hlen := List.length_pos_iff.2 hne
   have hget : ∀ (j : Nat) (e' : Ent), (popIso x.st)[j]? = some e' → x.st[j]? = some e' := by
    intro j e' he
    have hj : j < (popIso x.st).length := (List.getElem?_eq_some_iff.1 he).1
    rw [h1, List.getElem?_append_left hj]; exact he
   refine ⟨hne, fun j e' he => h.lev j e' (hget j e' he), fun e' he => h.hd e' (hget 0 e' he), ?_, h.isos, ⟨by simp, by have := h.embs; simp only; omega⟩⟩
   have hc := h.cnt
   have hf : (x.st.filter (·.i)).length = ((popIso x.st).filter (·.i)).length + 1 := by
    have ha : a.filter (·.i) = [] := List.filter_eq_nil_iff.2 (by intro y hy; simp [h3 y hy])
    conv => lhs; rw [h1]
    rw [List.filter_append, List.length_append, List.filter_cons, if_pos h2, ha]
    rfl
   simp only
   omega
theorem XOk.pre {m : Int} {x : XS} (h : XOk m x) (c : Int) : XOk m (xPre x c) := by unfold xPre; split; exact h.end; exact h
theorem XOk.post {m : Int} {x : XS} (h : XOk m x) (cs : List Int) (i : Nat) (c : Int) : XOk (m + 1) (xPost cs i x c) := by
 unfold xPost
 split
 ·exact h.embed c
 ·split
  ·exact h.begin 0
  ·split
   ·exact h.begin 1
   ·split
    ·exact h.begin _
    ·split
     ·exact h.pop.mono (by omega)
     ·exact h.mono (by omega)
theorem xAt_ok (cs : List Int) (para : Int) (h : 0 ≤ para ∧ para ≤ 125) : ∀ i : Nat, XOk i (xAt cs para i)
 | 0 => XOk.start para h
 | i + 1 => by
  have := ((xAt_ok cs para h i).pre (cs.getD i 0)).post cs i (cs.getD i 0)
  exact this
end Go.Proofs.YtkbinfhclaafhaaGreatDoor
namespace Go.Proofs.YtkbinfhclaafhaaGreatDoor
open Go.RowKit
def iv (l : List Int) : List Value := l.map (.int .i64 ·)
def bv (l : List Bool) : List Value := l.map .bool
theorem iv_set (l : List Int) (k : Nat) (a : Int) : (iv l).set k (.int .i64 a) = iv (l.set k a) := by simp [iv, List.map_set]
theorem bv_set (l : List Bool) (k : Nat) (a : Bool) : (bv l).set k (.bool a) = bv (l.set k a) := by simp [bv, List.map_set]
def upto {α : Type} (l : List α) (z : α) (k : Nat) : List α := l.take k ++ List.replicate (l.length - k) z
theorem upto_zero {α : Type} (l : List α) (z : α) : upto l z 0 = List.replicate l.length z := by simp [upto]
theorem upto_all {α : Type} (l : List α) (z : α) (k : Nat) (h : k = l.length) : upto l z k = l := by simp [upto, h]
theorem upto_length {α : Type} (l : List α) (z : α) (k : Nat) (h : k ≤ l.length) : (upto l z k).length = l.length := by simp [upto]; omega
theorem upto_set {α : Type} (l : List α) (z a : α) (k : Nat) (h : l[k]? = some a) : (upto l z k).set k a = upto l z (k + 1) := by
 obtain ⟨hk, rfl⟩ := List.getElem?_eq_some_iff.1 h
 clear h
 unfold upto
 rw [List.set_append_right _ _ (by simp; omega)]
 simp only [List.length_take, Nat.min_eq_left (Nat.le_of_lt hk), Nat.sub_self]
 rw [show l.length - k = (l.length - (k + 1)) + 1 by omega, List.replicate_succ, List.set_cons_zero, List.take_succ_eq_append_getElem hk, List.append_assoc]
 rfl
theorem row_oth {w w' : World} {B s n : Nat} {v : Value} {e : TypeId} {xs : List Value} (h : w.ownsRow B e 1 v n xs) (ho : Lib.OthersKept 181 (some s) w w') (he : e ≠ 181) (hs : v.ownBlock ≠ some s) : w'.ownsRow B e 1 v n xs := by
 rcases h.2 with ⟨rfl, h0⟩ | ⟨g, cp, cur, rfl, h1, h2, h3⟩
 ·exact ⟨h.1, .inl ⟨rfl, h0⟩⟩
 ·refine ⟨h.1, .inr ⟨g, cp, cur, rfl, h1, ho g _ h2 (by simpa [Value.ownBlock] using hs) ?_, h3⟩⟩
  intro c fz hc
  injection hc with _ h' _
  exact he h'
theorem Tryz.infoI8 : (Tryz.prog.info? 3).map (fun i => (i.zero, i.size, i.bytes)) = some (some (.int .i64 0), 1, 8) := by kernel_rfl
theorem Tryz.infoBool : (Tryz.prog.info? 4).map (fun i => (i.zero, i.size, i.bytes)) = some (some (.bool false), 1, 1) := by kernel_rfl
def RowAt (w : World) (B : Nat) (e : TypeId) (g n : Nat) (xs : List Value) : Prop := w.ownsRow B e 1 (.slice (some ⟨g, 0, none⟩) n n) n xs
theorem RowAt.set {w : World} {B g n : Nat} {e : TypeId} {xs : List Value} (h : RowAt w B e g n xs) (k : Nat) (u : Value) : RowAt (w.setCell ⟨g, k, none⟩ u) B e g n (xs.set k u) := (h.stored k u).1
theorem RowAt.setOther {w : World} {B g n : Nat} {e : TypeId} {xs : List Value} (h : RowAt w B e g n xs) (g' k : Nat) (u : Value) (hne : g ≠ g') : RowAt (w.setCell ⟨g', k, none⟩ u) B e g n xs := row_set h (by simp [Value.ownBlock, hne]) k u
theorem RowAt.alloc {w : World} {B g n : Nat} {e : TypeId} {xs : List Value} (h : RowAt w B e g n xs) (o : Obj) : RowAt (w.alloc o) B e g n xs := World.ownsRow.alloc h o
theorem RowAt.frozen {w : World} {B g n : Nat} {e : TypeId} {xs : List Value} (h : RowAt w B e g n xs) (k : Nat) : w.frozen? ⟨g, k, none⟩ = false := World.ownsRow.frozenAt h k
theorem RowAt.cell {w : World} {B g n : Nat} {e : TypeId} {xs : List Value} (h : RowAt w B e g n xs) (k : Nat) (hk : k < n) : w.cell? ⟨g, k, none⟩ = xs[k]? := World.ownsRow.cellAt h k (by omega)
theorem RowAt.ge {w : World} {B g n : Nat} {e : TypeId} {xs : List Value} (h : RowAt w B e g n xs) : B ≤ g ∧ g < w.heap.size := World.ownsRow.lt h g rfl
theorem RowAt.made {w : World} {B n : Nat} {e : TypeId} {z : Value} (hB : B ≤ w.heap.size) (hn : n ≤ 1000000) : RowAt (w.alloc (.cells (madeCells #[z] n) e)) B e w.heap.size n (List.replicate n z) := by
 refine ⟨by simp, .inr ⟨w.heap.size, n, madeCells #[z] n, rfl, hB, ?_, Nat.le_refl _, by unfold maxLen; omega, by simp [size_madeCells], ?_⟩⟩
 ·exact heap_alloc_new w _
 ·rw [toList_madeCells_one]; simp
end Go.Proofs.YtkbinfhclaafhaaGreatDoor
namespace Go.Proofs.YtkbinfhclaafhaaGreatDoor
open Go.RowKit
def IRow (w : World) (B g n cap : Nat) (t : List Int) : Prop := w.ownsRow B 3 1 (.slice (some ⟨g, 0, none⟩) n cap) n (iv t)
theorem IRow.len {w : World} {B g n cap : Nat} {t : List Int} (h : IRow w B g n cap t) : t.length = n := by have := h.1; simpa [iv] using this
theorem IRow.set {w : World} {B g n cap : Nat} {t : List Int} (h : IRow w B g n cap t) (k : Nat) (a : Int) : IRow (w.setCell ⟨g, k, none⟩ (.int .i64 a)) B g n cap (t.set k a) := by
 have := (World.ownsRow.stored h k (.int .i64 a)).1
 rw [iv_set] at this
 exact this
theorem IRow.grown {w : World} {B g n cap : Nat} {t : List Int} (h : IRow w B g n cap t) (k : Nat) (a : Int) : w.grownBy (w.setCell ⟨g, k, none⟩ (.int .i64 a)) (some g) := (World.ownsRow.stored h k (.int .i64 a)).2
theorem IRow.frozen {w : World} {B g n cap : Nat} {t : List Int} (h : IRow w B g n cap t) (k : Nat) : w.frozen? ⟨g, k, none⟩ = false := World.ownsRow.frozenAt h k
theorem IRow.cell {w : World} {B g n cap : Nat} {t : List Int} (h : IRow w B g n cap t) (k : Nat) (hk : k < n) : w.cell? ⟨g, k, none⟩ = some (.int .i64 (t.getD k 0)) := by
 rw [World.ownsRow.cellAt h k (by omega)]
 have hl := h.len
 simp [iv, List.getD_eq_getElem?_getD, List.getElem?_eq_getElem (show k < t.length by omega)]
def numL (strong tt : Int) : Int → List Int → List Int
 | _, [] => []
 | last, c :: r => (if c = 3 ∧ (if c = 0 ∨ c = 1 ∨ c = 2 then c else last) = strong then tt else c) :: numL strong tt (if c = 0 ∨ c = 1 ∨ c = 2 then c else last) r
def NumTo (strong tt sos : Int) (t : List Int) (k : Nat) (last : Int) (t' : List Int) : Prop := ∃ pre, pre.length = k ∧ t' = pre ++ t.drop k ∧ numL strong tt sos t = pre ++ numL strong tt last (t.drop k)
theorem NumTo.start (strong tt sos : Int) (t : List Int) : NumTo strong tt sos t 0 sos t := ⟨[], rfl, by simp, by simp⟩
theorem NumTo.stop {strong tt sos last : Int} {t t' : List Int} {k : Nat} (h : NumTo strong tt sos t k last t') (hk : ¬ k < t.length) : t' = numL strong tt sos t := by
 obtain ⟨pre, _, h2, h3⟩ := h
 rw [List.drop_eq_nil_of_le (by omega)] at h2 h3
 rw [h2, h3]; rfl
theorem NumTo.at {strong tt sos last : Int} {t t' : List Int} {k : Nat} (h : NumTo strong tt sos t k last t') (hk : k < t.length) : t'.getD k 0 = t.getD k 0 := by
 obtain ⟨pre, h1, h2, _⟩ := h
 rw [h2, List.getD_eq_getElem?_getD, List.getElem?_append_right (by omega), h1, Nat.sub_self, drop_at hk]; rfl
theorem NumTo.step {strong tt sos last : Int} {t t' : List Int} {k : Nat} (h : NumTo strong tt sos t k last t') (hk : k < t.length) (last' v : Int) (hl : last' = if t.getD k 0 = 0 ∨ t.getD k 0 = 1 ∨ t.getD k 0 = 2 then t.getD k 0 else last) (hv : v = if t.getD k 0 = 3 ∧ last' = strong then tt else t.getD k 0) : NumTo strong tt sos t (k + 1) last' (t'.set k v) := by
 obtain ⟨pre, h1, h2, h3⟩ := h
 refine ⟨pre ++ [v], by simp [h1], ?_, ?_⟩
 ·rw [h2, drop_at hk, List.set_append_right _ _ (by omega), h1, Nat.sub_self]
  simp
 ·rw [h3, drop_at hk, numL, ← hl, ← hv]
  simp
theorem NumTo.same {strong tt sos last : Int} {t t' : List Int} {k : Nat} (h : NumTo strong tt sos t k last t') (hk : k < t.length) : t'.set k (t.getD k 0) = t' := by
 obtain ⟨pre, h1, h2, _⟩ := h
 rw [h2, drop_at hk, List.set_append_right _ _ (by omega), h1, Nat.sub_self]; rfl
set_option maxRecDepth 100000 in
set_option maxHeartbeats 8000000 in
theorem refnumbers_row (t : List Int) (sos strong tt : Int) (B g n cap : Nat) (w : World) (hr : IRow w B g n cap t) (hn : n ≤ 100000) :
  Calls Tryz.prog 190 #[.slice (some ⟨g, 0, none⟩) n cap, .int .i64 sos, .int .i64 strong, .int .i64 tt] w fun e w' => e = .returned (.tuple #[]) ∧ IRow w' B g n cap (numL strong tt sos t) ∧ w.grownBy w' (some g) := by
 have HR : Hid (IRow w B g n cap t) := hr
 have HL : Hid (t.length = n) := hr.len
 clear hr
 go_enter Tryz.func190, Tryz.ntmps190
 go_wp2
 go_loopg [8, 9] n (fun gk lv i wr => ∃ (k : Nat) (l : Int) (t' : List Int), k ≤ n ∧ gk = n - k ∧ lv = .int .i64 l ∧ i = .int .i64 k ∧ IRow wr B g n cap t' ∧ w.grownBy wr (some g) ∧ NumTo strong tt sos t k l t')
 case atStart => exact ⟨0, sos, t, by omega, rfl, rfl, rfl, HR.out, World.grownBy.refl _ _, NumTo.start _ _ _ _⟩
 case round =>
  obtain ⟨k, l, t', hk, rfl, rfl, rfl, hI, hG, hN⟩ := hrel
  have HI : Hid (IRow wr B g n cap t') := hI
  have HG : Hid (w.grownBy wr (some g)) := hG
  have HN : Hid (NumTo strong tt sos t k l t') := hN
  by_cases hlt : k < n
  ·have hlt' : k < t.length := by rw [HL.out]; exact hlt
   have hcell := hI.cell k hlt
   rw [hN.at hlt'] at hcell
   have hfr := hI.frozen k
   obtain ⟨c, hx⟩ : ∃ c, c = t.getD k 0 := ⟨_, rfl⟩
   rw [← hx] at hcell
   have key : ∀ l' : Int, (l' = if c = 0 ∨ c = 1 ∨ c = 2 then c else l) → ¬ (c = 3 ∧ l' = strong) → Hid (NumTo strong tt sos t (k + 1) l' t') := by
    intro l' h1 h2
    have := hN.step hlt' l' c (by rw [← hx]; exact h1) (by rw [← hx, if_neg h2])
    rw [hx, hN.same hlt'] at this
    exact this
   have key2 : c = 3 → l = strong → Hid (NumTo strong tt sos t (k + 1) l (t'.set k tt)) := by
    intro h1 h2
    exact hN.step hlt' l tt (by rw [← hx, if_neg (by omega)]) (by rw [← hx, if_pos ⟨h1, h2⟩])
   clear hI hG hN hx hlt' HN
   by_cases h0 : c = 0
   ·subst h0
    have HS := key 0 rfl (by omega)
    clear key key2
    go_wp2
    go_roundg (n - (k + 1))
    case measure => omega
    case rel => exact ⟨k + 1, 0, _, by omega, rfl, rfl, by simp, HI.out, HG.out, HS.out⟩
   by_cases h1 : c = 1
   ·subst h1
    have HS := key 1 rfl (by omega)
    clear key key2
    go_wp2
    go_roundg (n - (k + 1))
    case measure => omega
    case rel => exact ⟨k + 1, 1, _, by omega, rfl, rfl, by simp, HI.out, HG.out, HS.out⟩
   by_cases h2 : c = 2
   ·subst h2
    have HS := key 2 rfl (by omega)
    clear key key2
    go_wp2
    go_roundg (n - (k + 1))
    case measure => omega
    case rel => exact ⟨k + 1, 2, _, by omega, rfl, rfl, by simp, HI.out, HG.out, HS.out⟩
   by_cases h3 : c = 3
   ·subst h3
    by_cases hs : l = strong
    ·have HS := key2 rfl hs
     have hs' : (l == strong) = true := by simpa using hs
     clear key key2 hs
     go_wp2
     go_roundg (n - (k + 1))
     case measure => omega
     case rel => exact ⟨k + 1, l, _, by omega, rfl, rfl, by simp, HI.out.set k _, HG.out.trans (HI.out.grown k _), HS.out⟩
    ·have HS := key l (by rw [if_neg (by omega)]) (fun h => hs h.2)
     have hs' : (l == strong) = false := by simpa using hs
     clear key key2 hs
     go_wp2
     go_roundg (n - (k + 1))
     case measure => omega
     case rel => exact ⟨k + 1, l, _, by omega, rfl, rfl, by simp, HI.out, HG.out, HS.out⟩
   have HS := key l (by rw [if_neg (by omega)]) (fun h => h3 h.1)
   have q0 : (c == 0) = false := by simpa using h0
   have q1 : (c == 1) = false := by simpa using h1
   have q2 : (c == 2) = false := by simpa using h2
   have q3 : (c == 3) = false := by simpa using h3
   clear key key2 h0 h1 h2 h3
   go_wp2
   go_roundg (n - (k + 1))
   case measure => omega
   case rel => exact ⟨k + 1, l, _, by omega, rfl, rfl, by simp, HI.out, HG.out, HS.out⟩
  ·have HE : Hid (t' = numL strong tt sos t) := hN.stop (by rw [HL.out]; exact hlt)
   clear hI hG hN HN
   go_wp2
   go_end0
   exact ⟨rfl, HE.out ▸ HI.out, HG.out⟩
end Go.Proofs.YtkbinfhclaafhaaGreatDoor
