import Derived.Test.YtkbinfhclaafhaaGreatDoorRefPlain
import Derived.Lib.OthersKept
import Derived.RegionTactic
import Derived.BigRegion
namespace Go.Proofs.YtkbinfhclaafhaaGreatDoor
open Go.RowKit

/-- An entry of the stack of explicit levels: level, override, isolate? -/
structure Ent where
  l : Int
  o : Int
  i : Bool
def Ent.cells (e : Ent) : List Value := [.int .i64 e.l, .int .i64 e.o, .bool e.i]
def entsV (st : List Ent) : List Value := st.flatMap Ent.cells
theorem entsV_length (st : List Ent) : (entsV st).length = st.length * 3 := by
  induction st with
  | nil => rfl
  | cons e r ih => simp only [entsV, List.flatMap_cons, List.length_append] at ih ⊢; rw [ih]; simp [Ent.cells]; omega
theorem entsV_snoc (st : List Ent) (e : Ent) : entsV (st ++ [e]) = entsV st ++ e.cells := by simp [entsV]
theorem entsV_last (st : List Ent) (e : Ent) (j : Nat) (hj : j < 3) : (entsV (st ++ [e]))[st.length * 3 + j]? = e.cells[j]? := by
  rw [entsV_snoc, List.getElem?_append_right (by rw [entsV_length]; omega), entsV_length]
  congr 1; omega

/-- Where the state lies: block s; its stack a row of the call's own. -/
structure StAt (w : World) (B s : Nat) (v : Value) (st : List Ent) (isos embs valid : Int) : Prop where
  cell : w.heap[s]? = some (.cells #[v, .int .i64 isos, .int .i64 embs, .int .i64 valid] 184 (0, 0))
  row : w.ownsRow B 181 3 v st.length (entsV st)
  low : B ≤ s

theorem heap_cell {w : World} {s : Nat} {cs : Array Value} {t : TypeId} {fr : Nat × Nat} (h : w.heap[s]? = some (.cells cs t fr)) (j : Nat) : w.cell? ⟨s, j, none⟩ = cs[j]? := by simp [World.cell?, h]
theorem heap_free {w : World} {s : Nat} {cs : Array Value} {t : TypeId} (h : w.heap[s]? = some (.cells cs t (0, 0))) (j : Nat) : w.frozen? ⟨s, j, none⟩ = false := by simp [World.frozen?, h]

theorem Tryz.entL (l o : Int) (i : Bool) (w : World) : (Instr.field 181 (.agg #[.int .i64 l, .int .i64 o, .bool i]) 0).run Tryz.prog w = .ok (.int .i64 l) w := by kernel_rfl
theorem Tryz.entI (l o : Int) (i : Bool) (w : World) : (Instr.field 181 (.agg #[.int .i64 l, .int .i64 o, .bool i]) 2).run Tryz.prog w = .ok (.bool i) w := by kernel_rfl
theorem Tryz.infoEntry : (Tryz.prog.info? 181).map (fun i => (i.size, i.bytes)) = some (3, 24) := by kernel_rfl

set_option maxHeartbeats 2000000 in
theorem top_any (w : World) (B s : Nat) (v : Value) (st : List Ent) (e : Ent) (isos embs valid : Int) (h : StAt w B s v (st ++ [e]) isos embs valid) (hn : st.length ≤ 1000000) :
    Calls Tryz.prog 117 #[.pointer (some ⟨s, 0, none⟩)] w fun ev w' => ev = .returned (.agg #[.int .i64 e.l, .int .i64 e.o, .bool e.i]) ∧ Below w.heap.size w w' := by
  have hc := heap_cell h.cell
  have h0 : w.cell? ⟨s, 0, none⟩ = some v := hc 0
  have hs : s < w.heap.size := by
    rcases Nat.lt_or_ge s w.heap.size with h' | h'
    · exact h'
    · have := h.cell; rw [Array.getElem?_eq_none h'] at this; cases this
  obtain ⟨g, cap, hv, hg, e0, e1, e2⟩ : ∃ g cap, v = .slice (some ⟨g, 0, none⟩) (st.length + 1) cap ∧ g < w.heap.size ∧ w.cell? ⟨g, st.length * 3, none⟩ = some (.int .i64 e.l) ∧ w.cell? ⟨g, st.length * 3 + 1, none⟩ = some (.int .i64 e.o) ∧ w.cell? ⟨g, st.length * 3 + 2, none⟩ = some (.bool e.i) := by
    have hrow := h.row
    rcases hrow.2 with ⟨_, h0⟩ | ⟨g, cap, cur, rfl, _, hh, _⟩
    · simp at h0
    · have hg := (hrow.lt g rfl).2
      have q0 := hrow.cellAt (st.length * 3) (by simp <;> omega)
      have q1 := hrow.cellAt (st.length * 3 + 1) (by simp <;> omega)
      have q2 := hrow.cellAt (st.length * 3 + 2) (by simp <;> omega)
      rw [show st.length * 3 = st.length * 3 + 0 from rfl, entsV_last st e 0 (by omega)] at q0
      rw [entsV_last st e 1 (by omega)] at q1
      rw [entsV_last st e 2 (by omega)] at q2
      exact ⟨g, cap, by simp, hg, q0, q1, q2⟩
  subst hv
  obtain ⟨n, hnn⟩ : ∃ n, n = st.length := ⟨_, rfl⟩
  rw [← hnn] at h0 e0 e1 e2 hn
  clear hc h hnn
  go_enter Tryz.func117, Tryz.ntmps117
  go_wp2
  go_region
  go_wp2
  exact bodyPost_ret (v := .agg #[.int .i64 e.l, .int .i64 e.o, .bool e.i]) (by simp [results, Tryz.results117, go_sem]) rfl ⟨rfl, ((Below.refl _ _).alloc (Nat.le_refl _) _).drew⟩

/-! The machine, plain. -/
structure XS where
  st : List Ent
  isos : Int
  embs : Int
  valid : Int
def nextL (l odd : Int) : Int := if (l + 1) % 2 = odd then l + 1 else l + 2
def topE (st : List Ent) : Ent := st.getLastD ⟨0, -1, false⟩
def freeX (x : XS) (n : Int) : Bool := decide (n ≤ 125) && (x.isos == 0 && x.embs == 0)

theorem StAt.below {w w' : World} {B s : Nat} {v : Value} {st : List Ent} {a b c : Int} (h : StAt w B s v st a b c) (hb : Below w.heap.size w w') : StAt w' B s v st a b c :=
  ⟨by rw [hb.block s]; exact h.cell; rcases Nat.lt_or_ge s w.heap.size with h' | h'; exact h'; (have := h.cell; rw [Array.getElem?_eq_none h'] at this; cases this),
   h.row.kept ⟨hb.os, hb.tape, hb.output, hb.size, fun j hj _ => hb.block j hj⟩ (row := none) (by rcases h.row.2 with ⟨rfl, _⟩ | ⟨g, cp, cur, rfl, _⟩ <;> simp [Value.ownBlock]), h.low⟩

set_option maxRecDepth 100000 in
set_option maxHeartbeats 2000000 in
theorem next_any (w : World) (B s : Nat) (v : Value) (st : List Ent) (e : Ent) (isos embs valid odd : Int) (h : StAt w B s v (st ++ [e]) isos embs valid) (hn : st.length ≤ 1000000) (hl : 0 ≤ e.l) (hl' : e.l ≤ 1000) :
    Calls Tryz.prog 187 #[.pointer (some ⟨s, 0, none⟩), .int .i64 odd] w fun ev w' => ev = .returned (.int .i64 (nextL e.l odd)) ∧ Below w.heap.size w w' := by
  have HT : Hid (Calls Tryz.prog 117 #[.pointer (some ⟨s, 0, none⟩)] w fun ev w' => ev = .returned (.agg #[.int .i64 e.l, .int .i64 e.o, .bool e.i]) ∧ Below w.heap.size w w') := top_any w B s v st e isos embs valid h hn
  obtain ⟨l, o, i⟩ := e
  simp only at hl hl' HT ⊢
  obtain ⟨q, hq⟩ : ∃ q, q = nextL l odd := ⟨_, rfl⟩
  rw [← hq]
  have HQ : Hid (q = nextL l odd) := hq
  have fL := Tryz.entL
  clear h hq
  by_cases hp : (l + 1) % 2 = odd
  · have HP : Hid ((l + 1) % 2 = odd) := hp
    have hp' : ((l + 1) % 2 != odd) = false := by simpa using hp
    clear hp
    go_enter Tryz.func187, Tryz.ntmps187
    go_wp2_with fail
    refine HT.out.mono ?_
    rintro e w1 ⟨rfl, hb⟩
    go_wp2
    go_ret
    exact ⟨ret_int (by rw [HQ.out, nextL, if_pos HP.out]), hb⟩
  · have HP : Hid (¬ (l + 1) % 2 = odd) := hp
    have hp' : ((l + 1) % 2 != odd) = true := by simpa using hp
    clear hp
    go_enter Tryz.func187, Tryz.ntmps187
    go_wp2_with fail
    refine HT.out.mono ?_
    rintro e w1 ⟨rfl, hb⟩
    go_wp2
    go_ret
    exact ⟨ret_int (by rw [HQ.out, nextL, if_neg HP.out]; omega), hb⟩

set_option maxHeartbeats 2000000 in
theorem free_any (w : World) (s : Nat) (v : Value) (isos embs valid n : Int) (st : List Ent) (h : w.heap[s]? = some (.cells #[v, .int .i64 isos, .int .i64 embs, .int .i64 valid] 184 (0, 0))) :
    Calls Tryz.prog 188 #[.pointer (some ⟨s, 0, none⟩), .int .i64 n] w fun ev w' => ev = .returned (.bool (freeX ⟨st, isos, embs, valid⟩ n)) ∧ w' = w := by
  have h1 : w.cell? ⟨s, 1, none⟩ = some (.int .i64 isos) := heap_cell h 1
  have h2 : w.cell? ⟨s, 2, none⟩ = some (.int .i64 embs) := heap_cell h 2
  obtain ⟨q, hq⟩ : ∃ q, q = freeX ⟨st, isos, embs, valid⟩ n := ⟨_, rfl⟩
  rw [← hq]
  have HQ : Hid (q = (decide (n ≤ 125) && (isos == 0 && embs == 0))) := hq
  clear h hq
  by_cases ha : n ≤ 125
  · by_cases hb : (isos == 0) = true
    · go_enter Tryz.func188, Tryz.ntmps188
      go_wp2
      go_ret
      exact ⟨ret_bool (by rw [HQ.out, hb, decide_eq_true ha]; rfl), rfl⟩
    · have hb : (isos == 0) = false := by simpa using hb
      go_enter Tryz.func188, Tryz.ntmps188
      go_wp2
      go_ret
      exact ⟨ret_bool (by rw [HQ.out, hb, decide_eq_true ha]; rfl), rfl⟩
  · have ha' : decide (n ≤ 125) = false := by simpa using ha
    go_enter Tryz.func188, Tryz.ntmps188
    go_wp2
    go_ret
    exact ⟨ret_bool (by rw [HQ.out, ha']; rfl), rfl⟩
end Go.Proofs.YtkbinfhclaafhaaGreatDoor
