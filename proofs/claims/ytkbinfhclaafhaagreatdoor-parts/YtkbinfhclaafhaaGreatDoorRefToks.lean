import Derived.Test.YtkbinfhclaafhaaGreatDoorEqV
namespace Go.Proofs.YtkbinfhclaafhaaGreatDoor
open Go.RowKit

/-! The document's tokens. -/
theorem cell_new (w : World) (c : Array Value) (t : TypeId) (j : Nat) : (w.alloc (.cells c t)).cell? ⟨w.heap.size, j, none⟩ = c[j]? := by
  have h : (w.alloc (.cells c t)).heap[w.heap.size]? = some (.cells c t (0, 0)) := World.alloc_heap_new w _
  unfold World.cell?
  simp only [h]
  rfl
/-- A struct appended onto a row of the call's own. -/
theorem wpList_pushR {P : Program} (w : World) {ops : Array Oper} {rest : List Oper} {o : Oper} {a : Act} {Q : Exit → Act → World → Prop} (hgd : o.guard = none) (s x : Operand) (t : TypeId)
    (ho : o.op = .call { callee := .builtin .append, args := #[s, x], argTypes := #[t, t] })
    (base : Nat) (e : TypeId) (i : TypeInfo) (z : Value) (size bytes : Nat) (ht : P.underlying t = some (.slice e)) (hi : P.info? e = some i) (hz : i.zero = some z)
    (hsize : i.size = size) (hby : i.bytes = bytes) (hzs : z.cells.size = size) (hsz : 0 < size) (hb64 : bytes ≤ 64)
    (v : Value) (n : Nat) (xs : List Value) (hs : a.eval s = v) (hown : w.ownsRow base e size v n xs)
    (ys : List Value) (e' : TypeId) (k : Nat) (hx : a.eval x = .slice (some ⟨k, 0, none⟩) 1 1) (hk : k = w.heap.size) (hl : ys.length = size) (h1 : ∀ u ∈ ys, u.oneCell' = true) (hn : n ≤ 1000000) (hbase : base ≤ w.heap.size)
    (h : ∀ v' w', w'.ownsRow base e size v' (n + 1) (xs ++ ys) → w.grownBy w' v.ownBlock → wpList P ops Q rest (a.put o.dst v') w') : wpList P ops Q (o :: rest) a (w.alloc (.cells ys.toArray e')) := by
  subst hk
  refine wpList_append_own _ hgd s x t ho base e i z size bytes ht hi hz hsize hby hzs hsz v n xs hs (hown.alloc _) ⟨w.heap.size, 0, none⟩ 1 1 ys hx (by omega) ?_ h1 ?_ ?_ ?_ ?_
  · intro j u hj
    have e : (⟨w.heap.size, 0, none⟩ : Addr).add j = ⟨w.heap.size, j, none⟩ := by
      by_cases h0 : j = 0
      · subst h0; rfl
      · simp [Addr.add, h0]
    rw [e, cell_new]
    simpa using hj
  · unfold maxLen; omega
  · have : (n + 1) * bytes ≤ 1000001 * 64 := Nat.mul_le_mul (by omega) hb64
    omega
  · simp; omega
  · intro v' w' h2 h3 _
    refine h v' w' h2 ⟨h3.os, h3.tape, h3.output, ?_, fun k hk hne => ?_⟩
    · have := h3.size; simp at this; omega
    · rw [h3.block k (by simp; omega) hne]
      exact Below.heap_alloc w _ k hk
theorem toksR_step {s : ByteArray} {p : Nat} (h : p < s.size) : toksR s p = consT (wordT s p) (toksR s (wordT s p).T) := by rw [toksR, if_pos h]
theorem row_form {w : World} {B : Nat} {e : TypeId} {z n : Nat} {v : Value} {xs : List Value} (h : w.ownsRow B e z v n xs) : ∃ a cap, v = .slice a n cap := by
  rcases h.2 with ⟨rfl, rfl⟩ | ⟨g, cap, cur, rfl, _⟩
  · exact ⟨none, 0, rfl⟩
  · exact ⟨_, cap, rfl⟩
theorem row_some {w : World} {B : Nat} {e : TypeId} {z n : Nat} {v : Value} {xs : List Value} (h : w.ownsRow B e z v n xs) (hn : 0 < n) : ∃ g cap, v = .slice (some ⟨g, 0, none⟩) n cap ∧ n ≤ cap ∧ B ≤ g ∧ g < w.heap.size := by
  have hlt := h.lt
  rcases h.2 with ⟨_, h0⟩ | ⟨g, cap, cur, rfl, hb, hh, hc, _⟩
  · omega
  · exact ⟨g, cap, rfl, hc, hb, (hlt g rfl).2⟩
theorem row_below {w w' : World} {B : Nat} {e : TypeId} {z n : Nat} {v : Value} {xs : List Value} (h : w.ownsRow B e z v n xs) (hb : Below w.heap.size w w') : w'.ownsRow B e z v n xs :=
  ownsRow_blocks h fun _ _ _ ho => heap_keep hb ho
theorem tok_kept {W w2 : World} {B : Nat} {e : TypeId} {z n : Nat} {v : Value} {xs : List Value} {c : Array Value} {T : TypeId} (ho : W.ownsRow B e z v n xs) (hg : (W.alloc (.cells c T)).grownBy w2 v.ownBlock) : w2.heap[W.heap.size]? = some (.cells c T (0, 0)) := by
  rw [hg.block W.heap.size (by simp) (fun h => by have := (ho.lt _ h.symm).2; omega)]
  exact World.alloc_heap_new W _
theorem cell_of {w : World} {b : Nat} {c : Array Value} {t : TypeId} {f : Nat × Nat} (h : w.heap[b]? = some (.cells c t f)) (j : Nat) : w.cell? ⟨b, j, none⟩ = c[j]? := by
  unfold World.cell?
  simp only [h]
  rfl
theorem toks_last {w : World} {B g cap n : Nat} {l : List Tk} {u : Tk} {e : TypeId} (h : w.ownsRow B e 5 (.slice (some ⟨g, 0, none⟩) n cap) n (toksV (l ++ [u]))) (hn : n = l.length + 1) : w.cell? ⟨g, l.length * 5, none⟩ = some (.int .i64 u.k) := by
  have := (toksV_get (l ++ [u]) l.length (by simp)).1
  rw [World.ownsRow.cellAt h (l.length * 5) (by omega), this]
  simp
theorem toks_lastT {w : World} {B g cap n : Nat} {l : List Tk} {u : Tk} {e : TypeId} (h : w.ownsRow B e 5 (.slice (some ⟨g, 0, none⟩) n cap) n (toksV (l ++ [u]))) (hn : n = l.length + 1) : w.cell? ⟨g, l.length * 5 + 2, none⟩ = some (.int .i64 u.T) := by
  have := (toksV_get (l ++ [u]) l.length (by simp)).2.2.1
  rw [World.ownsRow.cellAt h (l.length * 5 + 2) (by omega), this]
  simp
theorem Tryz.infoTok : (Tryz.prog.info? 125).map (fun i => (i.zero, i.size, i.bytes)) = some (some (.agg #[.int .i64 0, .int .i64 0, .int .i64 0, .int .i64 0, .int .i64 0]), 5, 40) := by kernel_rfl
set_option maxRecDepth 100000 in
set_option maxHeartbeats 4000000 in
theorem tokens_any (s : ByteArray) (w : World) (hz : s.size ≤ 1000) : Calls Tryz.prog 75 #[.string s] w fun e w' => ∃ v, e = .returned v ∧ w'.ownsRow w.heap.size 125 5 v (toksR s 0).length (toksV (toksR s 0)) ∧ Below w.heap.size w w' := by
  obtain ⟨iT, hiT, hzT⟩ : ∃ i, Tryz.prog.info? 125 = some i ∧ (i.zero, i.size, i.bytes) = (some (.agg #[.int .i64 0, .int .i64 0, .int .i64 0, .int .i64 0, .int .i64 0]), 5, 40) := by simpa using Tryz.infoTok
  simp only [Prod.mk.injEq] at hzT
  obtain ⟨hzT0, hzT1, hzT2⟩ := hzT
  obtain ⟨R, hR⟩ : ∃ R, R = toksR s 0 := ⟨_, rfl⟩
  rw [← hR]
  have HR : Hid (R = toksR s 0) := hR
  clear hR
  go_enter Tryz.func75, Tryz.ntmps75
  go_wp2
  go_loopg [3, 4, 5, 6] s.size (fun gk lv pv _ _ W => ∃ (l : List Tk) (p : Nat), p ≤ s.size ∧ gk = s.size - p ∧ l.length ≤ p ∧ pv = .int .i64 p ∧ joinT l (toksR s p) = R ∧ (∀ l' u, l = l' ++ [u] → u.k = 0 → u.B = 0 ∧ u.E = 0) ∧ W.ownsRow w.heap.size 125 5 lv l.length (toksV l) ∧ Below w.heap.size w W)
  case atStart => exact ⟨[], 0, by omega, rfl, by simp, rfl, HR.out.symm, fun l' u h => by simp at h, World.ownsRow_nil _ _ _ _, Below.refl _ _⟩
  case round =>
    obtain ⟨l, p, hp, rfl, hlp, rfl, hj, hBE, hown, hb⟩ := hrel
    by_cases hlt : p < s.size
    · have hpi : (p : Int) < (s.size : Int) := by omega
      have HB : Hid (Below w.heap.size w wr) := hb
      have HJ : Hid (joinT l (consT (wordT s p) (toksR s (wordT s p).T)) = R) := by show _ = _; rw [← hj, toksR_step hlt]
      have HBE : Hid (∀ l' u, l = l' ++ [u] → u.k = 0 → u.B = 0 ∧ u.E = 0) := hBE
      have HW := word_any s p wr hz hlt
      have HWT : Hid (p < (wordT s p).T ∧ (wordT s p).T ≤ s.size) := ⟨wordT_gt s p, wordT_le hlt⟩
      have HWc : Hid ((wordT s p).k = 0 → (wordT s p).B = 0 ∧ (wordT s p).E = 0) := fun h => by rw [wordT_code s p h]; exact ⟨rfl, rfl⟩
      clear hj hBE hb
      obtain ⟨⟨tk, tF, tT, tB, tE⟩, ht⟩ : ∃ t, wordT s p = t := ⟨_, rfl⟩
      rw [ht] at HW HJ HWT HWc
      clear ht
      unfold tkV at HW
      simp only at HW HJ HWT HWc
      obtain ⟨hT1, hT2⟩ := HWT.out
      clear HWT
      obtain ⟨qa, qc, rfl⟩ := row_form hown
      go_wp2_with fail
      refine HW.mono ?_
      clear HW
      rintro ev W ⟨rfl, hbW⟩
      have hown1 := row_below hown hbW
      have HB1 : Hid (Below w.heap.size w W) := HB.out.trans (hbW.mono HB.out.size)
      have hbz := HB1.out.size
      have HO : Hid (W.ownsRow w.heap.size 125 5 (.slice qa l.length qc) l.length (toksV l)) := hown1
      clear hown hbW HB hown1
      by_cases hk : tk = 0
      · subst hk
        rcases List.eq_nil_or_concat l with rfl | ⟨l', u, rfl⟩
        · have hown1 := HO.out
          clear HO
          simp only [List.length_nil] at hown1 hlp ⊢
          go_wp2_with (at_builtin; refine wpList_pushR _ rfl _ _ 123 rfl w.heap.size 125 iT _ 5 40 Tryz.underlying123 hiT hzT0 hzT1 hzT2 rfl (by decide) (by decide) _ _ _ rfl (World.ownsRow.alloc hown1 _) [_, _, _, _, _] _ _ rfl (by simp) rfl (by simp [Value.oneCell']) (by omega) (by simp; omega) ?_)
          intro v2 w2 hown2 hg2
          have hk2 := tok_kept hown1 hg2
          have htc := cell_of hk2 2
          simp only [List.getElem?_toArray, List.getElem?_cons_succ, List.getElem?_cons_zero] at htc
          have HB2 : Hid (Below w.heap.size w w2) := (HB1.out.alloc hbz _).grown hg2 (by simp; omega) (fun y hy => (hown1.lt y hy).1)
          have HO2 : Hid (w2.ownsRow w.heap.size 125 5 v2 (0 + 1) (toksV (([] : List Tk) ++ [⟨0, tF, tT, tB, tE⟩]))) := by
            show World.ownsRow _ _ _ _ _ _ _
            rw [toksV_snoc]
            exact hown2
          clear hown1 hown2 hg2 hk2
          go_wp2
          go_roundg (s.size - tT)
          case measure => omega
          case rel =>
            refine ⟨([] : List Tk) ++ [⟨0, tF, tT, tB, tE⟩], tT, hT2, rfl, by simp; omega, rfl, ?_, ?_, by exact HO2.out, HB2.out⟩
            · rw [← HJ.out]
              exact (joinT_put ([] : List Tk) ⟨0, tF, tT, tB, tE⟩ (toksR s tT) (fun l1 u1 h1 => by simp at h1)).symm
            · intro l'' u' he hu
              have he2 : u' = ⟨0, tF, tT, tB, tE⟩ := by have := congrArg List.getLast? he; simp at this; exact this.symm
              subst he2
              exact HWc.out (by first | exact hu | trivial)
        · rw [List.concat_eq_append] at *
          obtain ⟨m, hm⟩ : ∃ m, m = l'.length := ⟨_, rfl⟩
          have hlen : (l' ++ [u]).length = m + 1 := by simp [hm]
          rw [hlen] at HO hlp ⊢
          have hown1 := HO.out
          obtain ⟨g, gc, hge, hgc, hgB, hgs⟩ := row_some hown1 (by omega)
          simp only [Value.slice.injEq, true_and] at hge
          obtain ⟨rfl, rfl⟩ := hge
          have HM : Hid (m = l'.length) := hm
          have hcl := toks_last hown1 (by omega)
          rw [← hm] at hcl
          clear hm HO
          obtain ⟨uk, uF, uT, uB, uE⟩ := u
          simp only at hcl
          by_cases hu : uk = 0
          · subst hu
            have hfz := World.ownsRow.frozenAt hown1 (m * 5 + 2)
            have hcl2 := toks_lastT hown1 (by rw [HM.out])
            rw [← HM.out] at hcl2
            simp only at hcl2
            have hgn : ¬ g = W.heap.size := by omega
            have hgn' : ¬ W.heap.size = g := by omega
            have hst := World.ownsRow.stored hown1 (m * 5 + 2) (.int .i64 tT)
            have HS : Hid _ := hst
            clear hst hown1
            go_wp2
            go_roundg (s.size - tT)
            case measure => omega
            case rel =>
              obtain ⟨b1, b2⟩ := HBE.out l' ⟨0, uF, uT, uB, uE⟩ rfl rfl
              refine ⟨l' ++ [(⟨0, uF, tT, uB, uE⟩ : Tk)], tT, hT2, rfl, by simp [← HM.out]; omega, rfl, ?_, ?_, ?_, ?_⟩
              · rw [← HJ.out]
                exact (joinT_over l' ⟨0, uF, uT, uB, uE⟩ ⟨0, tF, tT, tB, tE⟩ (toksR s tT) rfl rfl b1 b2).symm
              · intro l'' u' he hu
                have he2 : u' = ⟨0, uF, tT, uB, uE⟩ := by have := congrArg List.getLast? he; simp at this; exact this.symm
                subst he2
                exact ⟨b1, b2⟩
              · rw [show (l' ++ [(⟨0, uF, tT, uB, uE⟩ : Tk)]).length = m + 1 by simp [HM.out]]
                have := HS.out.1
                rw [show m * 5 + 2 = l'.length * 5 + 2 by rw [← HM.out], toksV_over] at this
                rw [← HM.out] at this
                exact World.ownsRow.alloc this _
              · exact (HB1.out.grown HS.out.2 hbz (fun y hy => by obtain rfl := Option.some.inj hy; exact hgB)).alloc (by simpa using hbz) _
          · have hu' : ((uk : Int) == 0) = false := by simpa using hu
            have HNu : Hid (uk ≠ 0) := hu
            clear hu
            go_wp2_with (at_builtin; refine wpList_pushR _ rfl _ _ 123 rfl w.heap.size 125 iT _ 5 40 Tryz.underlying123 hiT hzT0 hzT1 hzT2 rfl (by decide) (by decide) _ _ _ rfl (World.ownsRow.alloc hown1 _) [_, _, _, _, _] _ _ rfl (by simp) rfl (by simp [Value.oneCell']) (by omega) (by simp; omega) ?_)
            intro v2 w2 hown2 hg2
            have hk2 := tok_kept hown1 hg2
            have htc := cell_of hk2 2
            simp only [List.getElem?_toArray, List.getElem?_cons_succ, List.getElem?_cons_zero] at htc
            have HB2 : Hid (Below w.heap.size w w2) := (HB1.out.alloc hbz _).grown hg2 (by simp; omega) (fun y hy => (hown1.lt y hy).1)
            have HO2 : Hid (w2.ownsRow w.heap.size 125 5 v2 ((m + 1) + 1) (toksV ((l' ++ [⟨uk, uF, uT, uB, uE⟩]) ++ [⟨0, tF, tT, tB, tE⟩]))) := by
              show World.ownsRow _ _ _ _ _ _ _
              rw [toksV_snoc]
              exact hown2
            clear hown1 hown2 hg2 hk2
            go_wp2
            go_roundg (s.size - tT)
            case measure => omega
            case rel =>
              refine ⟨(l' ++ [⟨uk, uF, uT, uB, uE⟩]) ++ [⟨0, tF, tT, tB, tE⟩], tT, hT2, rfl, by simp [← HM.out]; omega, rfl, ?_, ?_, by rw [show (l' ++ [(⟨uk, uF, uT, uB, uE⟩ : Tk)] ++ [(⟨0, tF, tT, tB, tE⟩ : Tk)]).length = m + 1 + 1 by simp [HM.out]]; exact HO2.out, HB2.out⟩
              · rw [← HJ.out]
                exact (joinT_put (l' ++ [⟨uk, uF, uT, uB, uE⟩]) ⟨0, tF, tT, tB, tE⟩ (toksR s tT) (fun l1 u1 h1 => .inl (by have := congrArg List.getLast? h1; simp at this; subst this; exact HNu.out))).symm
              · intro l'' u' he hu
                have he2 : u' = ⟨0, tF, tT, tB, tE⟩ := by have := congrArg List.getLast? he; simp at this; exact this.symm
                subst he2
                exact HWc.out (by first | exact hu | trivial)
      · have hk' : ((tk : Int) == 0) = false := by simpa using hk
        have hown1 := HO.out
        have HNk : Hid (tk ≠ 0) := hk
        clear hk HO
        go_wp2_with (at_builtin; refine wpList_pushR _ rfl _ _ 123 rfl w.heap.size 125 iT _ 5 40 Tryz.underlying123 hiT hzT0 hzT1 hzT2 rfl (by decide) (by decide) _ _ _ rfl (World.ownsRow.alloc hown1 _) [_, _, _, _, _] _ _ rfl (by simp) rfl (by simp [Value.oneCell']) (by omega) (by simp; omega) ?_)
        intro v2 w2 hown2 hg2
        have hk2 := tok_kept hown1 hg2
        have htc := cell_of hk2 2
        simp only [List.getElem?_toArray, List.getElem?_cons_succ, List.getElem?_cons_zero] at htc
        have HB2 : Hid (Below w.heap.size w w2) := (HB1.out.alloc hbz _).grown hg2 (by simp; omega) (fun y hy => (hown1.lt y hy).1)
        have HO2 : Hid (w2.ownsRow w.heap.size 125 5 v2 (l.length + 1) (toksV (l ++ [⟨tk, tF, tT, tB, tE⟩]))) := by
          show World.ownsRow _ _ _ _ _ _ _
          rw [toksV_snoc]
          exact hown2
        clear hown1 hown2 hg2 hk2
        go_wp2
        go_roundg (s.size - tT)
        case measure => omega
        case rel =>
          refine ⟨l ++ [⟨tk, tF, tT, tB, tE⟩], tT, hT2, rfl, by simp; omega, rfl, ?_, ?_, by simpa using HO2.out, HB2.out⟩
          · rw [← HJ.out]
            exact (joinT_put l ⟨tk, tF, tT, tB, tE⟩ (toksR s tT) (fun _ _ _ => .inr HNk.out)).symm
          · intro l'' u' he hu
            have he2 : u' = ⟨tk, tF, tT, tB, tE⟩ := by have := congrArg List.getLast? he; simp at this; exact this.symm
            subst he2
            exact HWc.out (by first | exact hu | trivial)
    · obtain rfl : p = s.size := by omega
      have hpi : ¬ (s.size : Int) < (s.size : Int) := by omega
      have hlR : l = R := by rw [← hj, toksR_end hlt, joinT_end]
      subst hlR
      have HO : Hid (wr.ownsRow w.heap.size 125 5 _ l.length (toksV l)) := hown
      have HB : Hid (Below w.heap.size w wr) := hb
      obtain ⟨qa, qc, rfl⟩ := row_form hown
      clear hown hb hj hBE HR
      go_wp2
      go_ret
      exact ⟨_, rfl, HO.out, HB.out⟩
end Go.Proofs.YtkbinfhclaafhaaGreatDoor
