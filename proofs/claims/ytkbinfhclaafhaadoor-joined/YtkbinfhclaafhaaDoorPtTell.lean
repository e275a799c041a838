import Derived.Test.YtkbinfhclaafhaaDoorPtRd
import Derived.Test.YtkbinfhclaafhaaDoorRfLaw
import Derived.Stop.RegionWithIn
import Derived.OwnWalkIn
import Derived.TacticsInMore
namespace Go.Proofs.YtkbinfhclaafhaaDoor
open Go.RowKit

/-! (*parts.reader).cut and open: what tells. -/
/-- A part, as it is told. -/
structure PR where
  line : Nat
  kind : Nat
  from_ : Nat
  to_ : Nat
  body : Nat
  end_ : Nat
def encP (x : PR) : Array Value := #[.int .i64 x.line, .agg #[.int .i64 x.kind, .int .i64 x.from_, .int .i64 x.to_, .int .i64 x.body, .int .i64 x.end_]]
/-- What the reader does to a world: new blocks, and its own one. -/
structure Abd (A B : World) : Prop where
  os : B.os = A.os
  tape : B.tape = A.tape
  output : B.output = A.output
  size : A.heap.size ≤ B.heap.size
  block : ∀ (k : Nat) (o : Obj), A.heap[k]? = some o → (∀ c fr, o ≠ Obj.cells c 44 fr) → B.heap[k]? = some o
/-- What a round keeps. -/
structure Kpt (n₀ : Nat) (A B : World) : Prop where
  below : Below n₀ A B
  rd : ∀ (k : Nat) (c : Array Value) (fr : Nat × Nat), A.heap[k]? = some (Obj.cells c 44 fr) → B.heap[k]? = some (Obj.cells c 44 fr)
theorem Abd.of_grown {A B : World} {rb : Nat} {c : Array Value} {fr : Nat × Nat} (h : A.heap[rb]? = some (.cells c 44 fr)) (hg : A.grownBy B (some rb)) : Abd A B where
  os := hg.os
  tape := hg.tape
  output := hg.output
  size := hg.size
  block k o hk hne := by
    rw [hg.block k (heapLt hk)]
    · exact hk
    · intro e
      obtain rfl := Option.some.inj e
      rw [h] at hk
      exact hne _ _ (Option.some.inj hk).symm
/-- A telling under way. -/
structure Tl (l n₀ : Nat) (J Jx : List PR → World → Prop) (X : List PR) : Prop where
  hJ : ∀ pre A B, J pre A → Abd A B → J pre B
  hJx : ∀ pre A B, Jx pre A → Abd A B → Jx pre B
  hY : ∀ pre x W1, J pre W1 → (pre ++ [x]) <+: X → YieldAt Fence.wide 0 Tryd.prog l (encP x) W1 fun e W' => (e = .returned (.bool true) ∧ J (pre ++ [x]) W' ∧ Kpt n₀ W1 W') ∨ (e = .returned (.bool false) ∧ Jx (pre ++ [x]) W' ∧ Kpt n₀ W1 W')
/-- The reader, what has come so far, what is to come. -/
structure Rs (w : World) (rb : Nat) (s : ByteArray) (l : Nat) (J Jx : List PR → World → Prop) (X : List PR) (p : RP) (st : Bool) (pre : List PR) : Prop where
  rd : Rd w rb s (.func (.yield l) #[] #[]) p st
  go : st = false → J pre w
  no : st = true → ∃ q, q <+: X ∧ Jx q w
def emitP (k t : Nat) (p : RP) : List PR := if p.from_ = p.at_ + t then [] else [⟨p.line, k, p.from_ - p.start, p.at_ + t - p.start, if k = 0 then 0 else p.body - p.start, if k = 0 then 0 else p.at_ - p.start⟩]
def cutP (t : Nat) (p : RP) : RP := if p.from_ = p.at_ + t then ⟨p.line, p.start, p.from_, p.body, p.at_ + t⟩ else ⟨p.line, p.start, p.at_ + t, p.at_ + t, p.at_ + t⟩
def cutS (t : Nat) (p : RP) (st : Bool) : RP := if st then ⟨p.line, p.start, p.from_, p.body, p.at_ + t⟩ else cutP t p
section
variable {w w' : World} {rb : Nat} {s : ByteArray} {l n₀ : Nat} {J Jx : List PR → World → Prop} {X : List PR} {p p' : RP} {st st' : Bool} {pre : List PR}
theorem Rs.abd (h : Rs w rb s l J Jx X p st pre) (T : Tl l n₀ J Jx X) (ha : Abd w w') (hr : Rd w' rb s (.func (.yield l) #[] #[]) p' st) : Rs w' rb s l J Jx X p' st pre :=
  ⟨hr, fun e => T.hJ _ _ _ (h.go e) ha, fun e => by obtain ⟨q, hq, hx⟩ := h.no e; exact ⟨q, hq, T.hJx _ _ _ hx ha⟩⟩
theorem Rs.grown (h : Rs w rb s l J Jx X p st pre) (T : Tl l n₀ J Jx X) (hg : w.grownBy w' (some rb)) (hr : Rd w' rb s (.func (.yield l) #[] #[]) p' st) : Rs w' rb s l J Jx X p' st pre :=
  h.abd T (Abd.of_grown h.rd hg) hr
end
theorem grown_al {a b : World} {r : Option Nat} (h : a.grownBy b r) (o : Obj) : a.grownBy (b.alloc o) r := ⟨h.os, h.tape, h.output, by have := h.size; simp; omega, fun k hk hne => (Below.heap_alloc _ _ _ (by have := h.size; omega)).trans (h.block k hk hne)⟩
theorem grown_set2 {a b : World} {r : Option Nat} (h : a.grownBy b r) {k i : Nat} (hk : a.heap.size ≤ k) (v : Value) : a.grownBy (b.setCell ⟨k, i, none⟩ v) r := ⟨h.os, h.tape, h.output, by have := h.size; simp; omega, fun j hj hne => (Below.heap_setCell _ _ _ _ (by show j ≠ k; omega)).trans (h.block j hj hne)⟩
theorem Below.of_grown' {n₀ : Nat} {a b : World} {rb : Nat} (h : a.grownBy b (some rb)) (h1 : n₀ ≤ rb) (h2 : n₀ ≤ a.heap.size) : Below n₀ a b := (Below.refl n₀ a).grown h h2 (fun k e => by obtain rfl := Option.some.inj e; exact h1)
/-! The telling itself: a declaration of its own. -/
def findReg (n : Nat) : Code → Option Code
  | .region id ops d => if id = n then some (.region id ops d) else none
  | .seq a b => match findReg n a with
    | some c => some c
    | none => findReg n b
  | .block _ c => findReg n c
  | .scope c => findReg n c
  | .loop c => findReg n c
  | .cond _ a b => match findReg n a with
    | some c => some c
    | none => findReg n b
  | _ => none
noncomputable def cutReg6 : Code := ((Tryd.f14.body.bind (findReg 6)).getD .skip)
set_option maxRecDepth 1000000 in
set_option maxHeartbeats 8000000 in
theorem cut6_any (w : World) (rb pb : Nat) (s : ByteArray) (l n₀ : Nat) (J Jx : List PR → World → Prop) (X : List PR) (T : Tl l n₀ J Jx X) (hn : n₀ ≤ rb) (p : RP) (pre : List PR) (ki F G B D : Nat) (W3 : World)
    (hP : W3.heap[pb]? = some (.cells #[.int .i64 ki, .int .i64 F, .int .i64 G, .int .i64 B, .int .i64 D] 38 (0, 0))) (hB3 : Below n₀ w W3) (hR3 : Rs W3 rb s l J Jx X p false pre) (hX : (pre ++ [(⟨p.line, ki, F, G, B, D⟩ : PR)]) <+: X)
    (K : Act → World → Prop) (R0 : Ending → World → Prop) (u1 u2 u3 u4 u5 u6 u8 u9 u10 u11 u12 u13 u14 u15 u16 u17 u18 u19 u20 u21 u22 u23 u24 u25 u26 u27 u28 u29 u30 u31 u32 u33 u34 u35 u36 u37 u38 u39 u40 u41 u42 u43 u44 u45 u46 u47 u48 u49 u50 u51 u52 u53 u54 u55 u56 u57 u58 u59 u60 u61 u62 u63 u64 u65 u66 u67 u68 u69 u70 u71 u72 u73 u74 u75 u76 u77 u78 u79 u80 u81 u82 u83 u84 u85 u86 u87 u88 u89 u90 u91 u92 u93 u94 u95 u96 u97 u98 u99 u100 u101 : Value)
    (hK : ∀ (b : Bool) (W5 : World) (v74 v75 v76 v77 v78 v79 v80 v81 v82 v83 v84 v85 v86 v87 : Value), Below n₀ w W5 → Rd W5 rb s (.func (.yield l) #[] #[]) p (!b) → (b = true → J (pre ++ [⟨p.line, ki, F, G, B, D⟩]) W5) → (b = false → Jx (pre ++ [⟨p.line, ki, F, G, B, D⟩]) W5) → K { tmps := #[.pointer (some ⟨rb, 0, none⟩), u1, u2, u3, u4, u5, u6, .pointer (some ⟨pb, 0, none⟩), u8, u9, u10, u11, u12, u13, u14, u15, u16, u17, u18, u19, u20, u21, u22, u23, u24, u25, u26, u27, u28, u29, u30, u31, u32, u33, u34, u35, u36, u37, u38, u39, u40, u41, u42, u43, u44, u45, u46, u47, u48, u49, u50, u51, u52, u53, u54, u55, u56, u57, u58, u59, u60, u61, u62, u63, u64, u65, u66, u67, u68, u69, u70, u71, u72, u73, v74, v75, v76, v77, v78, v79, v80, v81, v82, v83, v84, v85, v86, v87, u88, u89, u90, u91, u92, u93, u94, u95, u96, u97, u98, u99, u100, u101], defers := [] } W5) :
    Code.wp Tryd.prog cutReg6 (Exit.then K (bodyPost Tryd.prog Tryd.f14 R0)) { tmps := #[.pointer (some ⟨rb, 0, none⟩), u1, u2, u3, u4, u5, u6, .pointer (some ⟨pb, 0, none⟩), u8, u9, u10, u11, u12, u13, u14, u15, u16, u17, u18, u19, u20, u21, u22, u23, u24, u25, u26, u27, u28, u29, u30, u31, u32, u33, u34, u35, u36, u37, u38, u39, u40, u41, u42, u43, u44, u45, u46, u47, u48, u49, u50, u51, u52, u53, u54, u55, u56, u57, u58, u59, u60, u61, u62, u63, u64, u65, u66, u67, u68, u69, u70, u71, u72, u73, u74, u75, u76, u77, u78, u79, u80, u81, u82, u83, u84, u85, u86, u87, u88, u89, u90, u91, u92, u93, u94, u95, u96, u97, u98, u99, u100, u101], defers := [] } W3 := by
  conv => arg 2; whnf
  have HK : Hid _ := hK
  have HP : Hid _ := hP
  have HF3 : Hid (Below n₀ w W3 ∧ Rs W3 rb s l J Jx X p false pre) := ⟨hB3, hR3⟩
  have HX : Hid _ := hX
  clear hK hB3 hX
  obtain ⟨ln, sa, fr, bo, at1⟩ := p
  simp only at HX
  have c1 := hR3.rd.c1
  have c2 := hR3.rd.c2
  simp only at c2
  have q0 : W3.cell? ⟨pb, 0, none⟩ = some (.int .i64 ki) := heap_cell hP 0
  have q1 : W3.cell? ⟨pb, 1, none⟩ = some (.int .i64 F) := heap_cell hP 1
  have q2 : W3.cell? ⟨pb, 2, none⟩ = some (.int .i64 G) := heap_cell hP 2
  have q3 : W3.cell? ⟨pb, 3, none⟩ = some (.int .i64 B) := heap_cell hP 3
  have q4 : W3.cell? ⟨pb, 4, none⟩ = some (.int .i64 D) := heap_cell hP 4
  clear hP hR3
  obtain ⟨fn, tmps, assign, body, hy, hR⟩ := T.hY pre ⟨ln, ki, F, G, B, D⟩ W3.drew (T.hJ _ _ _ (HF3.out.2.go rfl) (Abd.of_grown HF3.out.2.rd (grown_drew (grown_refl _ _)))) HX.out
  have hR' : RoundIn Fence.wide 0 Tryd.prog l fn tmps assign body W3.drew fun e W' => ∃ b, e = .returned (.bool b) ∧ W'.cell? ⟨rb, 7, none⟩ = some (.bool false) ∧ W'.frozen? ⟨rb, 7, none⟩ = false ∧ Hid (Below n₀ w W' ∧ Rd W' rb s (.func (.yield l) #[] #[]) ⟨ln, sa, fr, bo, at1⟩ false ∧ (b = true → J (pre ++ [⟨ln, ki, F, G, B, D⟩]) W') ∧ (b = false → Jx (pre ++ [⟨ln, ki, F, G, B, D⟩]) W')) := by
    refine hR.mono ?_
    have hB3 := HF3.out.1
    have hR3 := HF3.out.2.rd
    rintro e W' (⟨rfl, hj, hkp⟩ | ⟨rfl, hj, hkp⟩)
    · have hrd : Rd W' rb s (.func (.yield l) #[] #[]) ⟨ln, sa, fr, bo, at1⟩ false := hkp.rd _ _ _ hR3
      exact ⟨true, rfl, hrd.c7, hrd.fz 7, hB3.drew.trans hkp.below, hrd, fun _ => hj, fun e => by cases e⟩
    · have hrd : Rd W' rb s (.func (.yield l) #[] #[]) ⟨ln, sa, fr, bo, at1⟩ false := hkp.rd _ _ _ hR3
      exact ⟨false, rfl, hrd.c7, hrd.fz 7, hB3.drew.trans hkp.below, hrd, (fun e => by cases e), fun _ => hj⟩
  have hy' : (Instr.yield l #[.int .i64 ln, .agg #[.int .i64 ki, .int .i64 F, .int .i64 G, .int .i64 B, .int .i64 D]]).run Tryd.prog W3.drew = .ok (.round l fn tmps assign body) W3.drew := hy
  clear hR hy
  have hdp : Fence.wide.depth = none := rfl
  refine (wpIn_wide (n := 0)).1 ?_
  gi_region_with (first | ((first | refine hR'.mono ?_ | refine ⟨rfl, hR'.mono ?_⟩); rintro ev W4 ⟨b, rfl, v7, g7, H4⟩))
  all_goals
    obtain ⟨k1, k2, k3, k4⟩ := H4.out
    have ka : Abd W4 (W4.setCell ⟨rb, 7, none⟩ (.bool (!b))) := Abd.of_grown k2 (grown_set (grown_refl _ _))
    exact HK.out b _ _ _ _ _ _ _ _ _ _ _ _ _ _ _ (k1.setCell (p := ⟨rb, 7, none⟩) hn _) (k2.s7 _) (fun e => T.hJ _ _ _ (k3 e) ka) (fun e => T.hJx _ _ _ (k4 e) ka)
end Go.Proofs.YtkbinfhclaafhaaDoor
