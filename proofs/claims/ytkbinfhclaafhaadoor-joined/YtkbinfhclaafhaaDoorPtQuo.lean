import Derived.Test.YtkbinfhclaafhaaDoorPtRead
namespace Go.Proofs.YtkbinfhclaafhaaDoor
open Go.RowKit

set_option maxRecDepth 1000000 in
set_option maxHeartbeats 16000000 in
theorem read_quoted (C : RC) (O : RCok C) (w : World) (p : RP) (pre : List PR) (h : RW C w p false pre) (hX : C.X = pre ++ runP C.s false p) (hlt : p.at_ < C.s.size) (e0 : bt C.s p.at_ = 34) (n : Nat) (hn : n = 2 * (C.s.size - p.at_) + 2)
    (K : Nat → Act → World → Prop) (hK : ∀ l m a w, m < n → LJ C l m a w → K l a w) (u0 u1 u2 u3 u5 u6 u7 u8 u9 u10 u11 u12 u13 u14 u15 u16 u17 u18 u19 u20 u21 u22 u23 u24 u25 u26 u27 u28 u29 u30 u31 u32 u33 u34 u35 u36 u37 u38 u39 u40 u41 u42 u43 u44 u45 u46 u47 u48 u49 u50 u51 u52 u53 u54 u55 u56 u57 u58 u59 u60 u61 u62 u63 u64 u65 u66 u67 u68 u69 u70 u71 u72 u73 u74 u75 u76 u77 u78 u79 u80 u81 u82 u83 u84 u85 u86 : Value) :
    Code.wp Tryd.prog (readAt 0) (jumps K (bodyPost Tryd.prog Tryd.f11 (RE C))) { tmps := #[u0, u1, u2, u3, .pointer (some ⟨C.rb, 0, none⟩), u5, u6, u7, u8, u9, u10, u11, u12, u13, u14, u15, u16, u17, u18, u19, u20, u21, u22, u23, u24, u25, u26, u27, u28, u29, u30, u31, u32, u33, u34, u35, u36, u37, u38, u39, u40, u41, u42, u43, u44, u45, u46, u47, u48, u49, u50, u51, u52, u53, u54, u55, u56, u57, u58, u59, u60, u61, u62, u63, u64, u65, u66, u67, u68, u69, u70, u71, u72, u73, u74, u75, u76, u77, u78, u79, u80, u81, u82, u83, u84, u85, u86], defers := [] } w := by
  conv => arg 2; whnf
  have HK : Hid (∀ l m a w, m < n → LJ C l m a w → K l a w) := hK
  have HN : Hid (n = 2 * (C.s.size - p.at_) + 2) := hn
  clear hK hn
  have HLt : Hid (p.at_ < C.s.size) := hlt
  have HE : Hid (C.X = (pre ++ emitP 0 0 p) ++ (emitP 1 (qT C.s (p.at_ + 1)) (mvP (openS 1 p false) (qR C.s (p.at_ + 1)).1) ++ runP C.s false (cutP (qT C.s (p.at_ + 1)) (mvP (openS 1 p false) (qR C.s (p.at_ + 1)).1)))) := by
    show _ = _
    rw [hX, runP, if_pos hlt, if_neg (by decide), if_pos e0, List.append_assoc]
  have HO := h.open O 1 (by omega) (by omega) (fun _ => ⟨_, HE.out.symm⟩)
  clear h hX hlt e0
  go_wp2_with fail
  refine HO.mono ?_
  rintro ev W1 ⟨⟨v, rfl⟩, st1, _, h1⟩
  have H1 : Hid (RW C W1 (openS 1 p false) st1 (pre ++ emitP 0 0 p)) := h1
  clear HO h1
  have HZ : Hid (C.s.size ≤ 1000) := O.hz
  obtain ⟨Q, hQ⟩ : ∃ Q, qR C.s (p.at_ + 1) = Q := ⟨_, rfl⟩
  have HQ : Hid (qR C.s (p.at_ + 1) = Q) := hQ
  clear hQ
  go_wp2
  go_loopg [] (C.s.size - (p.at_ + 1)) (fun gh W => ∃ a, gh = C.s.size - a ∧ RW C W (mvP (openS 1 p false) a) st1 (pre ++ emitP 0 0 p) ∧ (st1 = false → qR C.s a = Q) ∧ p.at_ < a)
  case atStart => exact ⟨p.at_ + 1, rfl, by have := H1.out; rw [show mvP (openS 1 p false) (p.at_ + 1) = openS 1 p false by rw [← openS_at (p := p) (st := false)]; rfl]; exact this, fun _ => HQ.out, by omega⟩
  case round =>
    obtain ⟨a, rfl, hW, hq, hle⟩ := hrel
    have HW : Hid (RW C wr (mvP (openS 1 p false) a) st1 (pre ++ emitP 0 0 p)) := hW
    have Hq : Hid (st1 = false → qR C.s a = Q) := hq
    have HLe : Hid (p.at_ < a) := hle
    have HA : Hid (a ≤ C.s.size) := hW.ok.e
    clear hle
    by_cases ho : lineB C.s (mvP (openS 1 p false) a) st1 = true
    · have HO := hW.lineOver O
      rw [ho] at HO
      have HE2 : Hid (st1 = false → Q = (a, false)) := fun e => by
        rw [← hq e, qR, if_neg]
        subst e
        rintro ⟨h1, h2⟩
        simp only [lineB, overB, Bool.or_eq_true, mvP] at ho
        rcases ho with (h3 | h3) | h3
        · cases h3
        · have := of_decide_eq_true h3; omega
        · exact h2 (of_decide_eq_true h3)
      clear ho hW hq
      go_wp2_with fail
      refine HO.mono ?_
      rintro ev W2 ⟨rfl, h2⟩
      have HP : Hid (st1 = false → C.X = (pre ++ emitP 0 0 p) ++ (emitP 1 0 (mvP (openS 1 p false) a) ++ runP C.s false (cutP 0 (mvP (openS 1 p false) a)))) := fun e => by
        have := HE.out
        rw [qT, HQ.out, HE2.out e] at this
        exact this
      have HC := h2.cut O 1 0 (by omega) (by omega) (by have := HA.out; exact this) (fun e => by rw [HP.out e, ← List.append_assoc]; exact List.prefix_append _ _)
      clear HO h2
      go_wp2_with fail
      refine HC.mono ?_
      rintro ev W3 ⟨⟨v, rfl⟩, st3, h3s, h3⟩
      have H3 : Hid (RW C W3 (cutS 0 (mvP (openS 1 p false) a) st1) st3 ((pre ++ emitP 0 0 p) ++ emitP 1 0 (mvP (openS 1 p false) a))) := h3
      have H3s : Hid (st1 = true → st3 = true) := h3s
      clear HC h3 h3s
      go_wp2
      refine wp_goto ?_
      have hat : p.at_ < (cutS 0 (mvP (openS 1 p false) a) st1).at_ := by
        rw [cutS_at]
        exact HLe.out
      have hx : st3 = false → C.X = ((pre ++ emitP 0 0 p) ++ emitP 1 0 (mvP (openS 1 p false) a)) ++ runP C.s false (cutS 0 (mvP (openS 1 p false) a) st1) := fun e => by
        have : st1 = false := by cases hs : st1 with
          | true => rw [H3s.out hs] at e; cases e
          | false => rfl
        subst this
        rw [cutS_false, List.append_assoc]
        exact HP.out rfl
      exact HK.out 3 (if st3 then 0 else 2 * (C.s.size - (cutS 0 (mvP (openS 1 p false) a) st1).at_) + 3) _ _ (by have h1 := HN.out; have h2 := hat; have h3 := HLt.out; split <;> omega) ⟨⟨_, _, _, _, _, _, _, _, _, _, _, _, _, _, _, _, _, _, _, _, _, _, _, _, _, _, _, _, _, _, _, _, _, _, _, _, _, _, _, _, _, _, _, _, _, _, _, _, _, _, _, _, _, _, _, _, _, _, _, _, _, _, _, _, _, _, _, _, _, _, _, _, _, _, _, _, _, _, _, _, _, _, _, _, _, _, rfl⟩, cutS 0 (mvP (openS 1 p false) a) st1, st3, _, H3.out, .inl ⟨rfl, hx, rfl⟩⟩
    · have ho : lineB C.s (mvP (openS 1 p false) a) st1 = false := by simpa using ho
      have HO := hW.lineOver O
      rw [ho] at HO
      simp only [lineB, overB, Bool.or_eq_false_iff, decide_eq_false_iff_not] at ho
      obtain ⟨⟨rfl, h2⟩, h3⟩ := ho
      have hlt : a < C.s.size := by have := HA.out; have h2 : ¬ a = C.s.size := h2; omega
      have h3 : bt C.s a ≠ 10 := h3
      have HLt2 : Hid (a < C.s.size ∧ bt C.s a ≠ 10) := ⟨hlt, h3⟩
      have HRun : Hid (qR C.s a = Q) := Hq.out rfl
      clear h2 h3 hW hq Hq
      go_wp2_with fail
      refine HO.mono ?_
      rintro ev W2 ⟨rfl, h1⟩
      have HS := h1.sign O hlt
      clear HO h1 hlt
      go_wp2_with fail
      refine HS.mono ?_
      rintro ev W3 ⟨rfl, h2⟩
      obtain ⟨b0, hb0⟩ : ∃ b0, bt C.s (mvP (openS 1 p false) a).at_ = b0 := ⟨_, rfl⟩
      obtain ⟨b1, hb1⟩ : ∃ b1, bt C.s ((mvP (openS 1 p false) a).at_ + 1) = b1 := ⟨_, rfl⟩
      have HB : Hid (bt C.s a = b0 ∧ bt C.s (a + 1) = b1) := ⟨hb0, hb1⟩
      rw [hb0, hb1]
      clear hb0 hb1 HS
      have h3 : RW C (W3.alloc (.cells #[.int .u8 b0, .int .u8 b1] 46)) (mvP (openS 1 p false) a) false (pre ++ emitP 0 0 p) := h2.al O _
      have H3 : Hid (RW C (W3.alloc (.cells #[.int .u8 b0, .int .u8 b1] 46)) (mvP (openS 1 p false) a) false (pre ++ emitP 0 0 p)) := h3
      have c6 : (W3.alloc (.cells #[.int .u8 b0, .int .u8 b1] 46)).cell? ⟨C.rb, 6, none⟩ = some (.int .i64 a) := h3.rs.rd.c6
      have f6 := h3.rs.rd.fz 6
      clear h2 h3
      have hz1 : (a : Int) ≤ 1000 := by have := HLt2.out.1; have := HZ.out; omega
      by_cases q34 : b0 = 34
      · subst q34
        have HQ2 : Hid (Q = (a, true)) := by show _ = _; rw [← HRun.out, qR, if_pos HLt2.out, if_pos HB.out.1]
        have HP : Hid (C.X = (pre ++ emitP 0 0 p) ++ (emitP 1 1 (mvP (openS 1 p false) a) ++ runP C.s false (cutP 1 (mvP (openS 1 p false) a)))) := by
          have := HE.out
          rw [qT, HQ.out, HQ2.out] at this
          exact this
        have HC := H3.out.cut O 1 1 (by omega) (by omega) (by have := HLt2.out.1; show a + 1 ≤ _; omega) (fun _ => by rw [HP.out, ← List.append_assoc]; exact List.prefix_append _ _)
        rw [cutS_false] at HC
        clear c6 f6
        go_wp2_with fail
        refine HC.mono ?_
        rintro ev W4 ⟨⟨v, rfl⟩, st3, _, h4⟩
        have H4 : Hid (RW C W4 (cutP 1 (mvP (openS 1 p false) a)) st3 ((pre ++ emitP 0 0 p) ++ emitP 1 1 (mvP (openS 1 p false) a))) := h4
        clear HC h4
        go_wp2
        refine wp_goto ?_
        have hat : p.at_ < (cutP 1 (mvP (openS 1 p false) a)).at_ := by rw [cutP_at]; have := HLe.out; show _ < a + 1; omega
        exact HK.out 3 (if st3 then 0 else 2 * (C.s.size - (cutP 1 (mvP (openS 1 p false) a)).at_) + 3) _ _ (by have h1 := HN.out; have h2 := hat; have h3 := HLt.out; split <;> omega) ⟨⟨_, _, _, _, _, _, _, _, _, _, _, _, _, _, _, _, _, _, _, _, _, _, _, _, _, _, _, _, _, _, _, _, _, _, _, _, _, _, _, _, _, _, _, _, _, _, _, _, _, _, _, _, _, _, _, _, _, _, _, _, _, _, _, _, _, _, _, _, _, _, _, _, _, _, _, _, _, _, _, _, _, _, _, _, _, _, rfl⟩, cutP 1 (mvP (openS 1 p false) a), st3, _, H4.out, .inl ⟨rfl, fun _ => by rw [List.append_assoc]; exact HP.out, rfl⟩⟩
      · have r34 : (b0 == 34) = false := by simpa using q34
        by_cases q92 : b0 = 92
        · subst q92
          clear q34 r34
          by_cases q10 : b1 = 10
          · subst q10
            have HQ2 : Hid (qR C.s (a + 1) = Q) := by show _ = _; rw [← HRun.out]; conv => rhs; rw [qR, if_pos HLt2.out, if_neg (by rw [HB.out.1]; decide), if_neg (by rw [HB.out.2]; rintro ⟨_, h⟩; exact h rfl)]
            go_wp2
            go_roundg (C.s.size - (a + 1))
            case measure => have := HLt2.out.1; omega
            case rel => exact ⟨a + 1, rfl, H3.out.step O (j := a + 1) (by show a ≤ _; omega) (by have := HLt2.out.1; omega), fun _ => HQ2.out, by have := HLe.out; omega⟩
          · have r10 : (b1 == 10) = false := by simpa using q10
            have HQ2 : Hid (qR C.s (a + 2) = Q) := by show _ = _; rw [← HRun.out]; conv => rhs; rw [qR, if_pos HLt2.out, if_neg (by rw [HB.out.1]; decide), if_pos (by rw [HB.out.1, HB.out.2]; exact ⟨rfl, q10⟩)]
            have HL3 : Hid (a + 1 < C.s.size) := bt_lt (by rw [HB.out.2]; exact q10)
            clear q10
            go_wp2
            go_roundg (C.s.size - (a + 2))
            case measure => have := HLt2.out.1; omega
            case rel => exact ⟨a + 2, rfl, H3.out.step O (j := a + 2) (by show a ≤ _; omega) (by have := HL3.out; omega), fun _ => HQ2.out, by have := HLe.out; omega⟩
        · have r92 : (b0 == 92) = false := by simpa using q92
          have HQ2 : Hid (qR C.s (a + 1) = Q) := by show _ = _; rw [← HRun.out]; conv => rhs; rw [qR, if_pos HLt2.out, if_neg (by rw [HB.out.1]; exact q34), if_neg (by rw [HB.out.1]; rintro ⟨h, _⟩; exact q92 h)]
          clear q34 q92
          go_wp2
          go_roundg (C.s.size - (a + 1))
          case measure => have := HLt2.out.1; omega
          case rel => exact ⟨a + 1, rfl, H3.out.step O (j := a + 1) (by show a ≤ _; omega) (by have := HLt2.out.1; omega), fun _ => HQ2.out, by have := HLe.out; omega⟩
end Go.Proofs.YtkbinfhclaafhaaDoor
