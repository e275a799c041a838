import Derived.Test.YtkbinfhclaafhaaGreatDoorApGo2
import Derived.Deep.RegionLaw
namespace Go.Proofs.YtkbinfhclaafhaaGreatDoor
open Go.RowKit

/-! A row of edits of the call's own. -/
theorem Tryz.infoEd : (Tryz.prog.info? 66).map (fun i => (i.zero, i.size, i.bytes)) = some (some (.agg #[.int .i64 0, .int .i64 0, .string ⟨#[]⟩]), 3, 32) := by kernel_rfl
def edsV (es : List Ed) : List Value := es.flatMap fun e => [.int .i64 e.a, .int .i64 e.c, .string e.n]
theorem edsV_snoc (es : List Ed) (e : Ed) : edsV (es ++ [e]) = edsV es ++ [.int .i64 e.a, .int .i64 e.c, .string e.n] := by simp [edsV]
theorem edsV_get : ∀ (l : List Ed) (i : Nat) (hi : i < l.length), (edsV l)[i * 3]? = some (.int .i64 l[i].a) ∧ (edsV l)[i * 3 + 1]? = some (.int .i64 l[i].c) ∧ (edsV l)[i * 3 + 2]? = some (.string l[i].n) := by
  intro l
  induction l with
  | nil => intro i hi; simp at hi
  | cons a l ih =>
    intro i hi
    have e : edsV (a :: l) = [.int .i64 a.a, .int .i64 a.c, .string a.n] ++ edsV l := by simp [edsV]
    cases i with
    | zero => rw [e]; simp
    | succ i =>
      have := ih i (by simpa using hi)
      rw [e, show (i + 1) * 3 = i * 3 + 3 by omega]
      simpa using this
theorem eds_form {w : World} {B : Nat} {e : TypeId} {z n : Nat} {v : Value} {xs : List Value} (h : w.ownsRow B e z v n xs) : ∃ a cap, v = .slice a n cap := by
  rcases h.2 with ⟨rfl, rfl⟩ | ⟨g, cap, cur, rfl, _⟩
  · exact ⟨none, 0, rfl⟩
  · exact ⟨_, cap, rfl⟩
theorem eds_read {w : World} {B : Nat} {v : Value} {es : List Ed} (h : w.ownsRow B 66 3 v es.length (edsV es)) (hn : 0 < es.length) : ∃ g cap, v = .slice (some ⟨g, 0, none⟩) es.length cap ∧ es.length ≤ cap ∧ EdsAt w g 0 es := by
  rcases h.2 with ⟨_, h0⟩ | ⟨g, cap, cur, rfl, hb, hh, hc, _⟩
  · omega
  · refine ⟨g, cap, rfl, hc, fun i hi => ?_⟩
    obtain ⟨k0, k1, k2⟩ := edsV_get es i hi
    rw [Nat.zero_add]
    exact ⟨by rw [World.ownsRow.cellAt h (i * 3) (by omega)]; exact k0, by rw [World.ownsRow.cellAt h (i * 3 + 1) (by omega)]; exact k1, by rw [World.ownsRow.cellAt h (i * 3 + 2) (by omega)]; exact k2⟩
theorem eds_below {w w' : World} {B : Nat} {e : TypeId} {z n : Nat} {v : Value} {xs : List Value} (h : w.ownsRow B e z v n xs) (hb : Below w.heap.size w w') : w'.ownsRow B e z v n xs :=
  ownsRow_blocks h fun _ _ _ ho => heap_keep hb ho
theorem eds_news (w : World) (y0 y1 y2 : Value) (e : TypeId) : ∀ j u, [y0, y1, y2][j]? = some u → (w.alloc (.cells #[y0, y1, y2] e)).cell? ((⟨w.heap.size, 0, none⟩ : Addr).add j) = some u := by
  intro j u hj
  match j, hj with
  | 0, hj => simp at hj; subst hj; simp [Addr.add]
  | 1, hj => simp at hj; subst hj; simp [Addr.add]
  | 2, hj => simp at hj; subst hj; simp [Addr.add]
/-- append onto a row of the call's own, as one step of a region that draws. -/
theorem step_append_eds {P : Program} {ops : Array Oper} {o : Oper} {a : Act} {w : World} {K : Act → World → Prop} {Q : Exit → Act → World → Prop} {E : Prop} (hgd : o.guard = none) (s x : Operand) (t : TypeId)
    (ho : o.op = .call { callee := .builtin .append, args := #[s, x], argTypes := #[t, t] })
    (base : Nat) (e : TypeId) (i : TypeInfo) (z : Value) (size bytes : Nat) (ht : P.underlying t = some (.slice e)) (hi : P.info? e = some i) (hz : i.zero = some z)
    (hsize : i.size = size) (hby : i.bytes = bytes) (hzs : z.cells.size = size) (hsz : 0 < size) (hb64 : bytes ≤ 64)
    (v : Value) (n : Nat) (xs : List Value) (hs : a.eval s = v) (hown : w.ownsRow base e size v n xs)
    (g : Nat) (news : List Value) (hx : a.eval x = .slice (some ⟨g, 0, none⟩) 1 1) (hl : news.length = size) (hnews : ∀ j u, news[j]? = some u → w.cell? ((⟨g, 0, none⟩ : Addr).add j) = some u) (h1 : ∀ u ∈ news, u.oneCell' = true) (hn : n ≤ 2000000) (hbase : base ≤ w.heap.size)
    (h : ∀ v' w', w'.ownsRow base e size v' (n + 1) (xs ++ news) → w.grownBy w' v.ownBlock → (v'.ownBlock = v.ownBlock ∨ v'.ownBlock = some w.heap.size) → K (a.put o.dst v') w') : if Region.wanted o (yielded ops a.tmps) = true then Oper.wp P o a w K Q else E := by
  have hw : Region.wanted o (yielded ops a.tmps) = true := by simp [Region.wanted, hgd]
  rw [if_pos hw]
  have hbytes : (n + 1) * bytes ≤ 140737488355328 := by
    have : (n + 1) * bytes ≤ 2000001 * 64 := Nat.mul_le_mul (by omega) hb64
    omega
  obtain ⟨v', w', hr, h2, h3, _, h5⟩ := run_append_own_at (P := P) w base t o.type e i z size bytes ht hi hz hsize hby hzs hsz v n xs hown ⟨g, 0, none⟩ 1 1 news (by omega) hnews h1 (by unfold maxLen; omega) hbytes hbase
  unfold Oper.wp execOp
  simp only [ho, resolve, invoke, builtin, Sem.run_bind, Sem.run_pure, Result.andThen_ok, List.map_toArray, List.map_cons, List.map_nil, hs, hx, hr]
  exact h v' w' h2 h3 h5
end Go.Proofs.YtkbinfhclaafhaaGreatDoor
