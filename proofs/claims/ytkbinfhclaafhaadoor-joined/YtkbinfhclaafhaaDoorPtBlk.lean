import Derived.Test.YtkbinfhclaafhaaDoorPtRead
namespace Go.Proofs.YtkbinfhclaafhaaDoor
open Go.RowKit

set_option maxRecDepth 1000000 in
set_option maxHeartbeats 16000000 in
theorem read_block (C : RC) (O : RCok C) (w : World) (p : RP) (pre : List PR) (h : RW C w p false pre) (hX : C.X = pre ++ runP C.s false p) (hlt : p.at_ < C.s.size) (e0 : bt C.s p.at_ = 47) (e1 : bt C.s (p.at_ + 1) = 42) (n : Nat) (hn : n = 2 * (C.s.size - p.at_) + 2)
    (K : Nat → Act → World → Prop) (hK : ∀ l m a w, m < n → LJ C l m a w → K l a w) (u0 u1 u2 u3 u5 u6 u7 u8 u9 u10 u11 u12 u13 u14 u15 u16 u17 u18 u19 u20 u21 u22 u23 u24 u25 u26 u27 u28 u29 u30 u31 u32 u33 u34 u35 u36 u37 u38 u39 u40 u41 u42 u43 u44 u45 u46 u47 u48 u49 u50 u51 u52 u53 u54 u55 u56 u57 u58 u59 u60 u61 u62 u63 u64 u65 u66 u67 u68 u69 u70 u71 u72 u73 u74 u75 u76 u77 u78 u79 u80 u81 u82 u83 u84 u85 u86 : Value) :
    Code.wp Tryd.prog (readAt 2) (jumps K (bodyPost Tryd.prog Tryd.f11 (RE C))) { tmps := #[u0, u1, u2, u3, .pointer (some ⟨C.rb, 0, none⟩), u5, u6, u7, u8, u9, u10, u11, u12, u13, u14, u15, u16, u17, u18, u19, u20, u21, u22, u23, u24, u25, u26, u27, u28, u29, u30, u31, u32, u33, u34, u35, u36, u37, u38, u39, u40, u41, u42, u43, u44, u45, u46, u47, u48, u49, u50, u51, u52, u53, u54, u55, u56, u57, u58, u59, u60, u61, u62, u63, u64, u65, u66, u67, u68, u69, u70, u71, u72, u73, u74, u75, u76, u77, u78, u79, u80, u81, u82, u83, u84, u85, u86], defers := [] } w := by
  conv => arg 2; whnf
  have HK : Hid (∀ l m a w, m < n → LJ C l m a w → K l a w) := hK
  have HN : Hid (n = 2 * (C.s.size - p.at_) + 2) := hn
  clear hK hn
  have HLt : Hid (p.at_ + 1 < C.s.size) := bt_lt (by rw [e1]; decide)
  have HE : Hid (C.X = (pre ++ emitP 0 0 p) ++ runP C.s true (openS 2 p false)) := by
    show _ = _
    rw [hX, runP, if_pos hlt, if_neg (by decide), if_neg (by rw [e0]; decide), if_neg (by rw [e1]; rintro ⟨_, h⟩; exact absurd h (by decide)), if_pos ⟨e0, e1⟩, List.append_assoc]
  have HO := h.open O 2 (by omega) (by have := HLt.out; omega) (fun _ => ⟨_, HE.out.symm⟩)
  clear h hX hlt e0 e1
  go_wp2_with fail
  refine HO.mono ?_
  rintro ev W1 ⟨⟨v, rfl⟩, st1, _, h1⟩
  have H1 : Hid (RW C W1 (openS 2 p false) st1 (pre ++ emitP 0 0 p)) := h1
  clear HO h1
  go_wp2
  go_loopg [] (C.s.size - (openS 2 p false).at_) (fun gh W => ∃ p' st' pre', gh = C.s.size - p'.at_ ∧ RW C W p' st' pre' ∧ (st' = false → C.X = pre' ++ runP C.s true p') ∧ p.at_ < p'.at_)
  case atStart => exact ⟨openS 2 p false, st1, _, rfl, H1.out, fun _ => HE.out, by rw [openS_at]; omega⟩
  case round =>
    obtain ⟨p', st', pre', rfl, hW, hX', hle⟩ := hrel
    have HW : Hid (RW C wr p' st' pre') := hW
    have HX' : Hid (st' = false → C.X = pre' ++ runP C.s true p') := hX'
    have HLe : Hid (p.at_ < p'.at_) := hle
    clear hle
    by_cases ho : overB C.s p' st' = true
    · have HO := hW.over O
      rw [ho] at HO
      have HE2 : Hid (st' = false → C.X = pre' ++ emitP 2 0 p') := fun e => by
        rw [hX' e, runP, if_neg]
        · rfl
        · subst e; simp [overB] at ho; omega
      clear ho hW hX'
      go_wp2_with fail
      refine HO.mono ?_
      rintro ev W2 ⟨rfl, h2⟩
      have HC := h2.cut O 2 0 (by omega) (by omega) (by have := h2.ok.e; omega) (fun e => by rw [HE2.out e]; exact List.prefix_refl _)
      clear HO h2
      go_wp2_with fail
      refine HC.mono ?_
      rintro ev W3 ⟨⟨v, rfl⟩, st2, h2, h3⟩
      have HF : Hid (RE C (.returned (.tuple #[])) W3) := h3.end (fun e => by
        have : st' = false := by cases hs : st' with
          | true => rw [h2 hs] at e; cases e
          | false => rfl
        exact HE2.out this) _
      clear HC h2 h3
      go_wp2
      go_end0
      exact HF.out
    · have ho : overB C.s p' st' = false := by simpa using ho
      have HO := hW.over O
      rw [ho] at HO
      have hst : st' = false := by simp [overB] at ho; exact ho.1
      have hlt : p'.at_ < C.s.size := by have := hW.ok.e; simp [overB] at ho; omega
      subst hst
      have HLt2 : Hid (p'.at_ < C.s.size) := hlt
      clear ho hW hX'
      have HRun : Hid (C.X = pre' ++ runP C.s true p') := HX'.out rfl
      clear HX'
      go_wp2_with fail
      refine HO.mono ?_
      rintro ev W2 ⟨rfl, h1⟩
      have HS := h1.sign O hlt
      clear HO h1 hlt
      go_wp2_with fail
      refine HS.mono ?_
      rintro ev W3 ⟨rfl, h2⟩
      obtain ⟨b0, hb0⟩ : ∃ b0, bt C.s p'.at_ = b0 := ⟨_, rfl⟩
      obtain ⟨b1, hb1⟩ : ∃ b1, bt C.s (p'.at_ + 1) = b1 := ⟨_, rfl⟩
      have HB : Hid (bt C.s p'.at_ = b0 ∧ bt C.s (p'.at_ + 1) = b1) := ⟨hb0, hb1⟩
      rw [hb0, hb1]
      clear hb0 hb1 HS
      have h3 : RW C (W3.alloc (.cells #[.int .u8 b0, .int .u8 b1] 46)) p' false pre' := h2.al O _
      obtain ⟨⟨y1, y2⟩, ⟨y3, y4⟩, y5, y6⟩ := (h3.env O).cells
      have H3 : Hid (RW C (W3.alloc (.cells #[.int .u8 b0, .int .u8 b1] 46)) p' false pre') := h3
      have c6 := h3.rs.rd.c6
      have f6 := h3.rs.rd.fz 6
      clear h2 h3
      by_cases qbe : b0 = 42 ∧ b1 = 47
      · obtain ⟨rfl, rfl⟩ := qbe
        have HE2 : Hid (C.X = (pre' ++ emitP 2 2 p') ++ runP C.s false (cutP 2 p')) := by
          show _ = _
          rw [HRun.out, runP, if_pos HLt2.out, if_pos rfl, if_pos HB.out, List.append_assoc]
        have HL2 : Hid (p'.at_ + 1 < C.s.size) := bt_lt (by rw [HB.out.2]; decide)
        have HC := H3.out.cut O 2 2 (by omega) (by omega) (by have := HL2.out; omega) (fun _ => ⟨_, HE2.out.symm⟩)
        rw [cutS_false] at HC
        clear c6 f6
        go_wp2_with fail
        refine HC.mono ?_
        rintro ev W4 ⟨⟨v, rfl⟩, st3, _, h4⟩
        have H4 : Hid (RW C W4 (cutP 2 p') st3 (pre' ++ emitP 2 2 p')) := h4
        clear HC h4
        go_wp2
        refine wp_goto ?_
        have hat : p.at_ < (cutP 2 p').at_ := by rw [cutP_at]; have := HLe.out; omega
        exact HK.out 3 (if st3 then 0 else 2 * (C.s.size - (cutP 2 p').at_) + 3) _ _ (by have h1 := HN.out; have h2 := hat; have h3 := HLt.out; split <;> omega) ⟨⟨_, _, _, _, _, _, _, _, _, _, _, _, _, _, _, _, _, _, _, _, _, _, _, _, _, _, _, _, _, _, _, _, _, _, _, _, _, _, _, _, _, _, _, _, _, _, _, _, _, _, _, _, _, _, _, _, _, _, _, _, _, _, _, _, _, _, _, _, _, _, _, _, _, _, _, _, _, _, _, _, _, _, _, _, _, _, rfl⟩, cutP 2 p', st3, _, H4.out, .inl ⟨rfl, fun _ => HE2.out, rfl⟩⟩
      · by_cases q10 : b0 = 10
        · subst q10
          clear qbe
          have HE2 : Hid (C.X = (pre' ++ emitP 2 0 p') ++ runP C.s true (feedP (cutP 0 p'))) := by
            show _ = _
            rw [HRun.out, runP, if_pos HLt2.out, if_pos rfl, if_neg (by rw [HB.out.1]; rintro ⟨h, _⟩; exact absurd h (by decide)), if_pos HB.out.1, List.append_assoc]
          have HC := H3.out.cut O 2 0 (by omega) (by omega) (by have := HLt2.out; omega) (fun _ => ⟨_, HE2.out.symm⟩)
          rw [cutS_false] at HC
          clear c6 f6
          go_wp2_with fail
          refine HC.mono ?_
          rintro ev W4 ⟨⟨v, rfl⟩, st3, _, h4⟩
          have HFd := h4.feed O (by rw [cutP_at]; have := HLt2.out; omega)
          clear HC h4
          go_wp2_with fail
          refine HFd.mono ?_
          rintro ev W5 ⟨⟨v, rfl⟩, h5⟩
          have H5 : Hid (RW C W5 (feedP (cutP 0 p')) st3 (pre' ++ emitP 2 0 p')) := h5
          clear HFd h5
          go_wp2
          have hfa : (feedP (cutP 0 p')).at_ = p'.at_ + 1 := by show (cutP 0 p').at_ + 1 = _; rw [cutP_at]
          go_roundg (C.s.size - (p'.at_ + 1))
          case measure => have := HLt2.out; omega
          case rel => exact ⟨_, st3, _, by rw [hfa], H5.out, fun _ => HE2.out, by rw [hfa]; have := HLe.out; omega⟩
        · have r10 : (b0 == 10) = false := by simpa using q10
          have HE2 : Hid (C.X = pre' ++ runP C.s true (mvP p' (p'.at_ + 1))) := by
            show _ = _
            obtain ⟨e1, e2⟩ := HB.out
            rw [HRun.out, runP, if_pos HLt2.out, if_pos rfl, if_neg (by rw [e1, e2]; exact qbe), if_neg (by rw [e1]; exact q10)]
          have hz1 : (p'.at_ : Int) ≤ 1000 := by have := HLt2.out; have := O.hz; omega
          by_cases q42 : b0 = 42
          · subst q42
            have r1 : (b1 == 47) = false := by simpa using qbe
            clear qbe q10
            go_wp2
            go_roundg (C.s.size - (p'.at_ + 1))
            case measure => have := HLt2.out; omega
            case rel => exact ⟨_, false, _, rfl, H3.out.step O (j := p'.at_ + 1) (by omega) (by have := HLt2.out; omega), fun _ => HE2.out, by have := HLe.out; show _ < p'.at_ + 1; omega⟩
          · have r42 : (b0 == 42) = false := by simpa using q42
            clear qbe q10 q42
            go_wp2
            go_roundg (C.s.size - (p'.at_ + 1))
            case measure => have := HLt2.out; omega
            case rel => exact ⟨_, false, _, rfl, H3.out.step O (j := p'.at_ + 1) (by omega) (by have := HLt2.out; omega), fun _ => HE2.out, by have := HLe.out; show _ < p'.at_ + 1; omega⟩
end Go.Proofs.YtkbinfhclaafhaaDoor
