import Derived.Test.YtkbinfhclaafhaaDoorPtMach
import Derived.Test.YtkbinfhclaafhaaDoorPtScope
namespace Go.Proofs.YtkbinfhclaafhaaDoor
open Go.RowKit

/-! parts.Read: its labels. -/
noncomputable def readIn : Code := match Tryd.f11.body with
  | some (.scope c) => c
  | _ => .skip
noncomputable def readAt (l : Nat) : Code := match findLabel readIn l with
  | some (.seq _ X) => X
  | _ => .skip
set_option maxRecDepth 1000000 in
/-- The frame of parts.Read: its reader lies in block rb. -/
def AtR (rb : Nat) (a : Act) : Prop := ∃ u0 u1 u2 u3 u5 u6 u7 u8 u9 u10 u11 u12 u13 u14 u15 u16 u17 u18 u19 u20 u21 u22 u23 u24 u25 u26 u27 u28 u29 u30 u31 u32 u33 u34 u35 u36 u37 u38 u39 u40 u41 u42 u43 u44 u45 u46 u47 u48 u49 u50 u51 u52 u53 u54 u55 u56 u57 u58 u59 u60 u61 u62 u63 u64 u65 u66 u67 u68 u69 u70 u71 u72 u73 u74 u75 u76 u77 u78 u79 u80 u81 u82 u83 u84 u85 u86 : Value, a = { tmps := #[u0, u1, u2, u3, .pointer (some ⟨rb, 0, none⟩), u5, u6, u7, u8, u9, u10, u11, u12, u13, u14, u15, u16, u17, u18, u19, u20, u21, u22, u23, u24, u25, u26, u27, u28, u29, u30, u31, u32, u33, u34, u35, u36, u37, u38, u39, u40, u41, u42, u43, u44, u45, u46, u47, u48, u49, u50, u51, u52, u53, u54, u55, u56, u57, u58, u59, u60, u61, u62, u63, u64, u65, u66, u67, u68, u69, u70, u71, u72, u73, u74, u75, u76, u77, u78, u79, u80, u81, u82, u83, u84, u85, u86], defers := [] }
/-- What lies in the package's variables. -/
structure PEnv (w : World) : Prop where
  lc : ∃ t f, w.heap[(3 : Nat)]? = some (.cells #[.int .u8 47, .int .u8 47] t f)
  bb : ∃ t f, w.heap[(4 : Nat)]? = some (.cells #[.int .u8 47, .int .u8 42] t f)
  be : ∃ t f, w.heap[(5 : Nat)]? = some (.cells #[.int .u8 42, .int .u8 47] t f)
theorem PEnv.below {w w' : World} {n : Nat} (h : PEnv w) (hn : 6 ≤ n) (hb : Below n w w') : PEnv w' :=
  ⟨h.lc.imp fun _ h => h.imp fun _ h => (hb.block _ (by omega)).trans h, h.bb.imp fun _ h => h.imp fun _ h => (hb.block _ (by omega)).trans h, h.be.imp fun _ h => h.imp fun _ h => (hb.block _ (by omega)).trans h⟩
theorem PEnv.sz {w : World} (h : PEnv w) : 6 ≤ w.heap.size ∨ w.heap.size ≤ 5 + 1 ∧ 5 < w.heap.size := by
  obtain ⟨_, _, h1⟩ := h.be
  have := heapLt h1
  omega
/-- What all of Read's walk speaks of. -/
structure RC where
  w0 : World
  rb : Nat
  s : ByteArray
  l : Nat
  n₀ : Nat
  J : List PR → World → Prop
  Jx : List PR → World → Prop
  X : List PR
/-- What always holds. -/
structure RCok (C : RC) : Prop where
  T : Tl C.l C.n₀ C.J C.Jx C.X
  hn : C.n₀ ≤ C.rb
  h20 : 6 ≤ C.n₀
  hz : C.s.size ≤ 1000
  env : PEnv C.w0
/-- Where the reader stands. -/
structure RW (C : RC) (w : World) (p : RP) (st : Bool) (pre : List PR) : Prop where
  rs : Rs w C.rb C.s C.l C.J C.Jx C.X p st pre
  ok : OkP C.s p
  be : Below C.n₀ C.w0 w
def LJ (C : RC) (lab n : Nat) (a : Act) (w : World) : Prop := AtR C.rb a ∧ ∃ p st pre, RW C w p st pre ∧
  ((lab = 3 ∧ (st = false → C.X = pre ++ runP C.s false p) ∧ n = if st then 0 else 2 * (C.s.size - p.at_) + 3) ∨
   (st = false ∧ C.X = pre ++ runP C.s false p ∧ p.at_ < C.s.size ∧ n = 2 * (C.s.size - p.at_) + 2 ∧
    ((lab = 0 ∧ bt C.s p.at_ = 34) ∨ (lab = 1 ∧ bt C.s p.at_ = 47 ∧ bt C.s (p.at_ + 1) = 47) ∨ (lab = 2 ∧ bt C.s p.at_ = 47 ∧ bt C.s (p.at_ + 1) = 42))))
/-- How Read is left. -/
def RE (C : RC) : Ending → World → Prop := fun e w' => (∃ v, e = .returned v) ∧ Below C.n₀ C.w0 w' ∧ (C.J C.X w' ∨ ∃ pre, pre <+: C.X ∧ C.Jx pre w')
theorem RW.drewN {C : RC} {w : World} {p : RP} {st : Bool} {pre : List PR} (h : RW C w p st pre) (O : RCok C) (m : Nat) : RW C (w.drewN m) p st pre :=
  ⟨h.rs.grown O.T (grown_drewN (grown_refl _ _)) (h.rs.rd.drewN m), h.ok, below_drewN h.be m⟩
/-- New blocks alone. -/
theorem RW.below {C : RC} {w w' : World} {p : RP} {st : Bool} {pre : List PR} (h : RW C w p st pre) (O : RCok C) (hb : Below w.heap.size w w') : RW C w' p st pre := by
  have hr : w'.heap[C.rb]? = w.heap[C.rb]? := hb.block _ h.rs.rd.lt
  have ha : Abd w w' := ⟨hb.os, hb.tape, hb.output, hb.size, fun k o hk _ => (hb.block k (heapLt hk)).trans hk⟩
  exact ⟨h.rs.abd O.T ha (hr.trans h.rs.rd), h.ok, h.be.trans (hb.mono (by have := h.rs.rd.lt; have := O.hn; omega))⟩
theorem RW.al {C : RC} {w : World} {p : RP} {st : Bool} {pre : List PR} (h : RW C w p st pre) (O : RCok C) (o : Obj) : RW C (w.alloc o) p st pre := h.below O ((Below.refl _ _).alloc (Nat.le_refl _) _)
/-- What the package's variables hold, cell by cell. -/
theorem PEnv.cells {w : World} (h : PEnv w) : (w.cell? ⟨3, 0, none⟩ = some (.int .u8 47) ∧ w.cell? ⟨3, 1, none⟩ = some (.int .u8 47)) ∧ (w.cell? ⟨4, 0, none⟩ = some (.int .u8 47) ∧ w.cell? ⟨4, 1, none⟩ = some (.int .u8 42)) ∧ (w.cell? ⟨5, 0, none⟩ = some (.int .u8 42) ∧ w.cell? ⟨5, 1, none⟩ = some (.int .u8 47)) :=
  let ⟨_, _, h1⟩ := h.lc
  let ⟨_, _, h2⟩ := h.bb
  let ⟨_, _, h3⟩ := h.be
  ⟨⟨heap_cell h1 0, heap_cell h1 1⟩, ⟨heap_cell h2 0, heap_cell h2 1⟩, ⟨heap_cell h3 0, heap_cell h3 1⟩⟩
theorem RW.env {C : RC} {w : World} {p : RP} {st : Bool} {pre : List PR} (h : RW C w p st pre) (O : RCok C) : PEnv w := O.env.below O.h20 h.be
/-- The contracts, as the walk wants them. -/
theorem RW.over {C : RC} {w : World} {p : RP} {st : Bool} {pre : List PR} (h : RW C w p st pre) (O : RCok C) : Calls Tryd.prog 12 #[.pointer (some ⟨C.rb, 0, none⟩)] w fun e w' => e = .returned (.bool (overB C.s p st)) ∧ RW C w' p st pre :=
  (over_any w C.rb C.s _ p st h.rs.rd).mono fun _ _ ⟨he, m, hm⟩ => ⟨he, by rw [hm]; exact h.drewN O m⟩
theorem RW.lineOver {C : RC} {w : World} {p : RP} {st : Bool} {pre : List PR} (h : RW C w p st pre) (O : RCok C) : Calls Tryd.prog 17 #[.pointer (some ⟨C.rb, 0, none⟩)] w fun e w' => e = .returned (.bool (lineB C.s p st)) ∧ RW C w' p st pre :=
  (lineOver_any w C.rb C.s _ p st h.rs.rd h.ok.e).mono fun _ _ ⟨he, m, hm⟩ => ⟨he, by rw [hm]; exact h.drewN O m⟩
theorem RW.sign {C : RC} {w : World} {p : RP} {st : Bool} {pre : List PR} (h : RW C w p st pre) (O : RCok C) (hlt : p.at_ < C.s.size) : Calls Tryd.prog 13 #[.pointer (some ⟨C.rb, 0, none⟩)] w fun e w' => e = .returned (.agg #[.int .u8 (bt C.s p.at_), .int .u8 (bt C.s (p.at_ + 1))]) ∧ RW C w' p st pre :=
  (sign_any w C.rb C.s _ p st h.rs.rd hlt (by have := O.hz; omega)).mono fun _ _ ⟨he, hb⟩ => ⟨he, h.below O hb⟩
theorem RW.cut {C : RC} {w : World} {p : RP} {st : Bool} {pre : List PR} (h : RW C w p st pre) (O : RCok C) (k t : Nat) (hk : k ≤ 2) (ht : t ≤ 2) (hat : p.at_ + t ≤ C.s.size) (hX : st = false → (pre ++ emitP k t p) <+: C.X) :
    Calls Tryd.prog 14 #[.pointer (some ⟨C.rb, 0, none⟩), .int .i64 k, .int .i64 t] w fun e w' => (∃ v, e = .returned v) ∧ ∃ st', (st = true → st' = true) ∧ RW C w' (cutS t p st) st' (pre ++ emitP k t p) := by
  have a := h.ok.a
  have b := h.ok.b
  have c := h.ok.c
  have d := h.ok.d
  have e := h.ok.e
  have z := O.hz
  exact (cut_any w C.rb C.s C.l C.n₀ C.J C.Jx C.X O.T O.hn p st pre h.rs k t hk ht a c (by omega) (by omega) (by omega) (by omega) hX).mono fun _ _ ⟨he, hb, st', h1, h2⟩ => ⟨he, st', h1, h2, h.ok.cut hat, h.be.trans hb⟩
theorem RW.open {C : RC} {w : World} {p : RP} {st : Bool} {pre : List PR} (h : RW C w p st pre) (O : RCok C) (hd : Nat) (hh : hd ≤ 2) (hat : p.at_ + hd ≤ C.s.size) (hX : st = false → (pre ++ emitP 0 0 p) <+: C.X) :
    Calls Tryd.prog 16 #[.pointer (some ⟨C.rb, 0, none⟩), .int .i64 hd] w fun e w' => (∃ v, e = .returned v) ∧ ∃ st', (st = true → st' = true) ∧ RW C w' (openS hd p st) st' (pre ++ emitP 0 0 p) :=
  (open_any w C.rb C.s C.l C.n₀ C.J C.Jx C.X O.T O.hn p st pre h.rs hd hh h.ok O.hz hX).mono fun _ _ ⟨he, hb, st', h1, h2⟩ => ⟨he, st', h1, h2, h.ok.open hat, h.be.trans hb⟩
theorem RW.grown {C : RC} {w w' : World} {p p' : RP} {st : Bool} {pre : List PR} (h : RW C w p st pre) (O : RCok C) (hg : w.grownBy w' (some C.rb)) (hr : Rd w' C.rb C.s (.func (.yield C.l) #[] #[]) p' st) (hp : OkP C.s p') : RW C w' p' st pre :=
  ⟨h.rs.grown O.T hg hr, hp, h.be.trans (Below.of_grown' hg O.hn (by have := h.rs.rd.lt; have := O.hn; omega))⟩
theorem RW.feed {C : RC} {w : World} {p : RP} {st : Bool} {pre : List PR} (h : RW C w p st pre) (O : RCok C) (hat : p.at_ + 1 ≤ C.s.size) :
    Calls Tryd.prog 15 #[.pointer (some ⟨C.rb, 0, none⟩)] w fun e w' => (∃ v, e = .returned v) ∧ RW C w' (feedP p) st pre :=
  (feed_any w C.rb C.s _ p st h.rs.rd (by have := h.ok.e; have := O.hz; omega) (by have := h.ok.f; have := h.ok.e; have := O.hz; omega)).mono fun _ _ ⟨he, h1, h2⟩ => ⟨he, h.grown O h2 h1 (h.ok.feed hat)⟩
theorem RW.skipLine {C : RC} {w : World} {p : RP} {st : Bool} {pre : List PR} (h : RW C w p st pre) (O : RCok C) :
    Calls Tryd.prog 18 #[.pointer (some ⟨C.rb, 0, none⟩)] w fun e w' => (∃ v, e = .returned v) ∧ RW C w' (mvP p (if st then p.at_ else lineEnd C.s p.at_)) st pre := by
  refine (skipLine_any w C.rb C.s _ p st h.rs.rd h.ok.e (by have := O.hz; omega)).mono fun _ _ ⟨he, h1, h2⟩ => ⟨he, h.grown O h2 h1 ?_⟩
  cases st with
  | true => exact h.ok.to (Nat.le_refl _) h.ok.e
  | false => exact h.ok.to (le_lineEnd _ _) (lineEnd_le h.ok.e)
/-- The reader goes on by some bytes. -/
theorem RW.step {C : RC} {w : World} {p : RP} {st : Bool} {pre : List PR} (h : RW C w p st pre) (O : RCok C) {j : Nat} (h1 : p.at_ ≤ j) (h2 : j ≤ C.s.size) : RW C (w.setCell ⟨C.rb, 6, none⟩ (.int .i64 j)) (mvP p j) st pre :=
  h.grown O (grown_set (grown_refl _ _)) (h.rs.rd.s6 j) (h.ok.to h1 h2)
theorem RW.end {C : RC} {w : World} {p : RP} {st : Bool} {pre : List PR} (h : RW C w p st pre) (hX : st = false → C.X = pre) (v : Value) : RE C (.returned v) w := by
  refine ⟨⟨_, rfl⟩, h.be, ?_⟩
  cases st with
  | true => exact .inr (h.rs.no rfl)
  | false => refine .inl ?_; have := h.rs.go rfl; rw [hX rfl]; exact this
end Go.Proofs.YtkbinfhclaafhaaDoor
