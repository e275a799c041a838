import Derived.Test.YtkbinfhclaafhaaDoorPtRead
namespace Go.Proofs.YtkbinfhclaafhaaDoor
open Go.RowKit

set_option maxRecDepth 1000000 in
set_option maxHeartbeats 16000000 in
theorem read_code (C : RC) (O : RCok C) (w : World) (p : RP) (st : Bool) (pre : List PR) (h : RW C w p st pre) (hX : st = false → C.X = pre ++ runP C.s false p) (n : Nat) (hn : n = if st then 0 else 2 * (C.s.size - p.at_) + 3)
    (K : Nat → Act → World → Prop) (hK : ∀ l m a w, m < n → LJ C l m a w → K l a w) (u0 u1 u2 u3 u5 u6 u7 u8 u9 u10 u11 u12 u13 u14 u15 u16 u17 u18 u19 u20 u21 u22 u23 u24 u25 u26 u27 u28 u29 u30 u31 u32 u33 u34 u35 u36 u37 u38 u39 u40 u41 u42 u43 u44 u45 u46 u47 u48 u49 u50 u51 u52 u53 u54 u55 u56 u57 u58 u59 u60 u61 u62 u63 u64 u65 u66 u67 u68 u69 u70 u71 u72 u73 u74 u75 u76 u77 u78 u79 u80 u81 u82 u83 u84 u85 u86 : Value) :
    Code.wp Tryd.prog (readAt 3) (jumps K (bodyPost Tryd.prog Tryd.f11 (RE C))) { tmps := #[u0, u1, u2, u3, .pointer (some ⟨C.rb, 0, none⟩), u5, u6, u7, u8, u9, u10, u11, u12, u13, u14, u15, u16, u17, u18, u19, u20, u21, u22, u23, u24, u25, u26, u27, u28, u29, u30, u31, u32, u33, u34, u35, u36, u37, u38, u39, u40, u41, u42, u43, u44, u45, u46, u47, u48, u49, u50, u51, u52, u53, u54, u55, u56, u57, u58, u59, u60, u61, u62, u63, u64, u65, u66, u67, u68, u69, u70, u71, u72, u73, u74, u75, u76, u77, u78, u79, u80, u81, u82, u83, u84, u85, u86], defers := [] } w := by
  conv => arg 2; whnf
  have HK : Hid (∀ l m a w, m < n → LJ C l m a w → K l a w) := hK
  have HN : Hid (n = if st then 0 else 2 * (C.s.size - p.at_) + 3) := hn
  clear hK hn
  go_wp2
  go_loopg [] (C.s.size - p.at_) (fun gh W => ∃ p' st' pre', gh = C.s.size - p'.at_ ∧ RW C W p' st' pre' ∧ (st' = false → C.X = pre' ++ runP C.s false p') ∧ (st' = false → st = false ∧ p.at_ ≤ p'.at_))
  case atStart => exact ⟨p, st, pre, rfl, h, hX, fun e => ⟨e, Nat.le_refl _⟩⟩
  case round =>
    obtain ⟨p', st', pre', rfl, hW, hX', hle⟩ := hrel
    have HW : Hid (RW C wr p' st' pre') := hW
    have HX' : Hid (st' = false → C.X = pre' ++ runP C.s false p') := hX'
    have HLe : Hid (st' = false → st = false ∧ p.at_ ≤ p'.at_) := hle
    clear hX h
    by_cases ho : overB C.s p' st' = true
    · have HO := hW.over O
      rw [ho] at HO
      have HE : Hid (st' = false → C.X = pre' ++ emitP 0 0 p') := fun e => by
        rw [hX' e, runP, if_neg]
        · rfl
        · subst e; simp [overB] at ho; omega
      clear ho hW hX' hle
      go_wp2_with fail
      refine HO.mono ?_
      rintro ev W1 ⟨rfl, h1⟩
      have HC := h1.cut O 0 0 (by omega) (by omega) (by have := h1.ok.e; omega) (fun e => by rw [HE.out e]; exact List.prefix_refl _)
      clear HO h1
      go_wp2_with fail
      refine HC.mono ?_
      rintro ev W2 ⟨⟨v, rfl⟩, st2, h2, h3⟩
      have HF : Hid (RE C (.returned (.tuple #[])) W2) := h3.end (fun e => by
        have : st' = false := by cases hs : st' with
          | true => rw [h2 hs] at e; cases e
          | false => rfl
        exact HE.out this) _
      clear HC h2 h3
      go_wp2
      exact bodyPost_ret (results_none rfl _ _ _) rfl HF.out
    · have ho : overB C.s p' st' = false := by simpa using ho
      have HO := hW.over O
      rw [ho] at HO
      have hst : st' = false := by simp [overB] at ho; exact ho.1
      have hlt : p'.at_ < C.s.size := by have := hW.ok.e; simp [overB] at ho; omega
      subst hst
      have HLt : Hid (p'.at_ < C.s.size) := hlt
      clear ho hW hX' hle
      have HRun : Hid (C.X = pre' ++ runP C.s false p') := HX'.out rfl
      have HLe2 : Hid (st = false ∧ p.at_ ≤ p'.at_) := HLe.out rfl
      clear HX' HLe
      go_wp2_with fail
      refine HO.mono ?_
      rintro ev W1 ⟨rfl, h1⟩
      have HS := h1.sign O hlt
      clear HO h1 hlt
      go_wp2_with fail
      refine HS.mono ?_
      rintro ev W2 ⟨rfl, h2⟩
      obtain ⟨b0, hb0⟩ : ∃ b0, bt C.s p'.at_ = b0 := ⟨_, rfl⟩
      obtain ⟨b1, hb1⟩ : ∃ b1, bt C.s (p'.at_ + 1) = b1 := ⟨_, rfl⟩
      have HB : Hid (bt C.s p'.at_ = b0 ∧ bt C.s (p'.at_ + 1) = b1) := ⟨hb0, hb1⟩
      rw [hb0, hb1]
      clear hb0 hb1 HS
      have h3 : RW C (W2.alloc (.cells #[.int .u8 b0, .int .u8 b1] 46)) p' false pre' := h2.al O _
      obtain ⟨⟨y1, y2⟩, ⟨y3, y4⟩, y5, y6⟩ := (h3.env O).cells
      have H3 : Hid (RW C (W2.alloc (.cells #[.int .u8 b0, .int .u8 b1] 46)) p' false pre') := h3
      have c6 := h3.rs.rd.c6
      have f6 := h3.rs.rd.fz 6
      clear h2 h3
      by_cases q34 : b0 = 34
      · subst q34
        go_wp2
        refine wp_goto ?_
        exact HK.out 0 (2 * (C.s.size - p'.at_) + 2) _ _ (by have := HN.out; rw [HLe2.out.1] at this; have h1 := HLe2.out.2; have h2 := HLt.out; simp at this; omega) ⟨⟨_, _, _, _, _, _, _, _, _, _, _, _, _, _, _, _, _, _, _, _, _, _, _, _, _, _, _, _, _, _, _, _, _, _, _, _, _, _, _, _, _, _, _, _, _, _, _, _, _, _, _, _, _, _, _, _, _, _, _, _, _, _, _, _, _, _, _, _, _, _, _, _, _, _, _, _, _, _, _, _, _, _, _, _, _, _, rfl⟩, p', false, pre', H3.out, .inr ⟨rfl, HRun.out, HLt.out, rfl, .inl ⟨rfl, HB.out.1⟩⟩⟩
      · have r34 : (b0 == 34) = false := by simpa using q34
        by_cases qlc : b0 = 47 ∧ b1 = 47
        · obtain ⟨rfl, rfl⟩ := qlc
          clear q34 r34
          go_wp2
          refine wp_goto ?_
          exact HK.out 1 (2 * (C.s.size - p'.at_) + 2) _ _ (by have := HN.out; rw [HLe2.out.1] at this; have h1 := HLe2.out.2; have h2 := HLt.out; simp at this; omega) ⟨⟨_, _, _, _, _, _, _, _, _, _, _, _, _, _, _, _, _, _, _, _, _, _, _, _, _, _, _, _, _, _, _, _, _, _, _, _, _, _, _, _, _, _, _, _, _, _, _, _, _, _, _, _, _, _, _, _, _, _, _, _, _, _, _, _, _, _, _, _, _, _, _, _, _, _, _, _, _, _, _, _, _, _, _, _, _, _, rfl⟩, p', false, pre', H3.out, .inr ⟨rfl, HRun.out, HLt.out, rfl, .inr (.inl ⟨rfl, HB.out⟩)⟩⟩
        · by_cases qbb : b0 = 47 ∧ b1 = 42
          · obtain ⟨rfl, rfl⟩ := qbb
            clear q34 r34 qlc
            go_wp2
            refine wp_goto ?_
            exact HK.out 2 (2 * (C.s.size - p'.at_) + 2) _ _ (by have := HN.out; rw [HLe2.out.1] at this; have h1 := HLe2.out.2; have h2 := HLt.out; simp at this; omega) ⟨⟨_, _, _, _, _, _, _, _, _, _, _, _, _, _, _, _, _, _, _, _, _, _, _, _, _, _, _, _, _, _, _, _, _, _, _, _, _, _, _, _, _, _, _, _, _, _, _, _, _, _, _, _, _, _, _, _, _, _, _, _, _, _, _, _, _, _, _, _, _, _, _, _, _, _, _, _, _, _, _, _, _, _, _, _, _, _, rfl⟩, p', false, pre', H3.out, .inr ⟨rfl, HRun.out, HLt.out, rfl, .inr (.inr ⟨rfl, HB.out⟩)⟩⟩
          · by_cases q10 : b0 = 10
            · subst q10
              clear q34 r34 qlc qbb
              have HE : Hid (C.X = (pre' ++ emitP 0 0 p') ++ runP C.s false (feedP (cutP 0 p'))) := by
                show _ = _
                have e1 := HB.out.1
                rw [HRun.out, runP, if_pos HLt.out, if_neg (by decide), if_neg (by rw [e1]; decide), if_neg (by rw [e1]; rintro ⟨h, _⟩; exact absurd h (by decide)), if_neg (by rw [e1]; rintro ⟨h, _⟩; exact absurd h (by decide)), if_pos e1, List.append_assoc]
              have HC := H3.out.cut O 0 0 (by omega) (by omega) (by have := HLt.out; omega) (fun _ => ⟨_, HE.out.symm⟩)
              rw [cutS_false] at HC
              clear c6 f6
              go_wp2_with fail
              refine HC.mono ?_
              rintro ev W3 ⟨⟨v, rfl⟩, st3, _, h3⟩
              have HFd := h3.feed O (by rw [cutP_at]; have := HLt.out; omega)
              clear HC h3
              go_wp2_with fail
              refine HFd.mono ?_
              rintro ev W4 ⟨⟨v, rfl⟩, h4⟩
              have H4 : Hid (RW C W4 (feedP (cutP 0 p')) st3 (pre' ++ emitP 0 0 p')) := h4
              clear HFd h4
              go_wp2
              have hfa : (feedP (cutP 0 p')).at_ = p'.at_ + 1 := by show (cutP 0 p').at_ + 1 = _; rw [cutP_at]
              go_roundg (C.s.size - (p'.at_ + 1))
              case measure => have := HLt.out; omega
              case rel => exact ⟨_, st3, _, by rw [hfa], H4.out, fun _ => HE.out, fun _ => ⟨HLe2.out.1, by have := HLe2.out.2; omega⟩⟩
            · have r10 : (b0 == 10) = false := by simpa using q10
              have HE : Hid (C.X = pre' ++ runP C.s false (mvP p' (p'.at_ + 1))) := by
                show _ = _
                obtain ⟨e1, e2⟩ := HB.out
                rw [HRun.out, runP, if_pos HLt.out, if_neg (by decide), if_neg (by rw [e1]; exact q34), if_neg (by rw [e1, e2]; exact qlc), if_neg (by rw [e1, e2]; exact qbb), if_neg (by rw [e1]; exact q10)]
              have HZ : Hid (p'.at_ + 1 ≤ 1000) := by have := HLt.out; have := O.hz; show _ ≤ _; omega
              have hz1 : (p'.at_ : Int) ≤ 1000 := by have := HZ.out; omega
              by_cases q47 : b0 = 47
              · subst q47
                have r1 : (b1 == 47) = false := by simpa using qlc
                have r2 : (b1 == 42) = false := by simpa using qbb
                clear q34 qlc qbb q10
                go_wp2
                go_roundg (C.s.size - (p'.at_ + 1))
                case measure => have := HLt.out; omega
                case rel => exact ⟨_, false, _, rfl, H3.out.step O (j := p'.at_ + 1) (by omega) (by have := HLt.out; omega), fun _ => HE.out, fun _ => ⟨HLe2.out.1, by have := HLe2.out.2; show _ ≤ p'.at_ + 1; omega⟩⟩
              · have r47 : (b0 == 47) = false := by simpa using q47
                clear q34 qlc qbb q10 q47
                go_wp2
                go_roundg (C.s.size - (p'.at_ + 1))
                case measure => have := HLt.out; omega
                case rel => exact ⟨_, false, _, rfl, H3.out.step O (j := p'.at_ + 1) (by omega) (by have := HLt.out; omega), fun _ => HE.out, fun _ => ⟨HLe2.out.1, by have := HLe2.out.2; show _ ≤ p'.at_ + 1; omega⟩⟩
end Go.Proofs.YtkbinfhclaafhaaDoor
