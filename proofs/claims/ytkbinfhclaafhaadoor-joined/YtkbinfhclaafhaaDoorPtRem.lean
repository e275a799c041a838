import Derived.Test.YtkbinfhclaafhaaDoorPtRead
namespace Go.Proofs.YtkbinfhclaafhaaDoor
open Go.RowKit

set_option maxRecDepth 1000000 in
set_option maxHeartbeats 16000000 in
theorem read_remark (C : RC) (O : RCok C) (w : World) (p : RP) (pre : List PR) (h : RW C w p false pre) (hX : C.X = pre ++ runP C.s false p) (hlt : p.at_ < C.s.size) (e0 : bt C.s p.at_ = 47) (e1 : bt C.s (p.at_ + 1) = 47) (n : Nat) (hn : n = 2 * (C.s.size - p.at_) + 2)
    (K : Nat → Act → World → Prop) (hK : ∀ l m a w, m < n → LJ C l m a w → K l a w) (u0 u1 u2 u3 u5 u6 u7 u8 u9 u10 u11 u12 u13 u14 u15 u16 u17 u18 u19 u20 u21 u22 u23 u24 u25 u26 u27 u28 u29 u30 u31 u32 u33 u34 u35 u36 u37 u38 u39 u40 u41 u42 u43 u44 u45 u46 u47 u48 u49 u50 u51 u52 u53 u54 u55 u56 u57 u58 u59 u60 u61 u62 u63 u64 u65 u66 u67 u68 u69 u70 u71 u72 u73 u74 u75 u76 u77 u78 u79 u80 u81 u82 u83 u84 u85 u86 : Value) :
    Code.wp Tryd.prog (readAt 1) (jumps K (bodyPost Tryd.prog Tryd.f11 (RE C))) { tmps := #[u0, u1, u2, u3, .pointer (some ⟨C.rb, 0, none⟩), u5, u6, u7, u8, u9, u10, u11, u12, u13, u14, u15, u16, u17, u18, u19, u20, u21, u22, u23, u24, u25, u26, u27, u28, u29, u30, u31, u32, u33, u34, u35, u36, u37, u38, u39, u40, u41, u42, u43, u44, u45, u46, u47, u48, u49, u50, u51, u52, u53, u54, u55, u56, u57, u58, u59, u60, u61, u62, u63, u64, u65, u66, u67, u68, u69, u70, u71, u72, u73, u74, u75, u76, u77, u78, u79, u80, u81, u82, u83, u84, u85, u86], defers := [] } w := by
  conv => arg 2; whnf
  have HK : Hid (∀ l m a w, m < n → LJ C l m a w → K l a w) := hK
  have HN : Hid (n = 2 * (C.s.size - p.at_) + 2) := hn
  clear hK hn
  have HLt : Hid (p.at_ + 1 < C.s.size) := bt_lt (by rw [e1]; decide)
  have HE : Hid (C.X = (pre ++ emitP 0 0 p) ++ (emitP 2 0 (mvP (openS 2 p false) (lineEnd C.s (p.at_ + 2))) ++ runP C.s false (cutP 0 (mvP (openS 2 p false) (lineEnd C.s (p.at_ + 2)))))) := by
    show _ = _
    rw [hX, runP, if_pos hlt, if_neg (by decide), if_neg (by rw [e0]; decide), if_pos ⟨e0, e1⟩, List.append_assoc]
  have HO := h.open O 2 (by omega) (by have := HLt.out; omega) (fun _ => ⟨_, HE.out.symm⟩)
  clear h hX hlt e0 e1
  go_wp2_with fail
  refine HO.mono ?_
  rintro ev W1 ⟨⟨v, rfl⟩, st1, _, h1⟩
  have HS := h1.skipLine O
  clear HO h1
  go_wp2_with fail
  refine HS.mono ?_
  rintro ev W2 ⟨⟨v, rfl⟩, h2⟩
  rw [openS_at] at h2
  have HC := h2.cut O 2 0 (by omega) (by omega) (by have := h2.ok.e; omega) (fun e => by rw [e, if_neg (by decide), HE.out, ← List.append_assoc]; exact List.prefix_append _ _)
  clear HS h2
  go_wp2_with fail
  refine HC.mono ?_
  rintro ev W3 ⟨⟨v, rfl⟩, st3, h3s, h3⟩
  have H3 : Hid (RW C W3 (cutS 0 (mvP (openS 2 p false) (if st1 then p.at_ + 2 else lineEnd C.s (p.at_ + 2))) st1) st3 ((pre ++ emitP 0 0 p) ++ emitP 2 0 (mvP (openS 2 p false) (if st1 then p.at_ + 2 else lineEnd C.s (p.at_ + 2))))) := h3
  have H3s : Hid (st1 = true → st3 = true) := h3s
  clear HC h3 h3s
  go_wp2
  refine wp_goto ?_
  have hat : p.at_ < (cutS 0 (mvP (openS 2 p false) (if st1 then p.at_ + 2 else lineEnd C.s (p.at_ + 2))) st1).at_ := by
    rw [cutS_at]
    show _ < (if st1 then p.at_ + 2 else lineEnd C.s (p.at_ + 2)) + 0
    have := le_lineEnd C.s (p.at_ + 2)
    split <;> omega
  have hx : st3 = false → C.X = ((pre ++ emitP 0 0 p) ++ emitP 2 0 (mvP (openS 2 p false) (if st1 then p.at_ + 2 else lineEnd C.s (p.at_ + 2)))) ++ runP C.s false (cutS 0 (mvP (openS 2 p false) (if st1 then p.at_ + 2 else lineEnd C.s (p.at_ + 2))) st1) := fun e => by
    have : st1 = false := by cases hs : st1 with
      | true => rw [H3s.out hs] at e; cases e
      | false => rfl
    subst this
    rw [if_neg (by decide), cutS_false, List.append_assoc]
    exact HE.out
  exact HK.out 3 (if st3 then 0 else 2 * (C.s.size - (cutS 0 (mvP (openS 2 p false) (if st1 then p.at_ + 2 else lineEnd C.s (p.at_ + 2))) st1).at_) + 3) _ _ (by have h1 := HN.out; have h2 := hat; have h3 := HLt.out; split <;> omega) ⟨⟨_, _, _, _, _, _, _, _, _, _, _, _, _, _, _, _, _, _, _, _, _, _, _, _, _, _, _, _, _, _, _, _, _, _, _, _, _, _, _, _, _, _, _, _, _, _, _, _, _, _, _, _, _, _, _, _, _, _, _, _, _, _, _, _, _, _, _, _, _, _, _, _, _, _, _, _, _, _, _, _, _, _, _, _, _, _, rfl⟩, cutS 0 (mvP (openS 2 p false) (if st1 then p.at_ + 2 else lineEnd C.s (p.at_ + 2))) st1, st3, _, H3.out, .inl ⟨rfl, hx, rfl⟩⟩
end Go.Proofs.YtkbinfhclaafhaaDoor
