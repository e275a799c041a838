import Derived.Test.YtkbinfhclaafhaaDoorPtCode
import Derived.Test.YtkbinfhclaafhaaDoorPtRem
import Derived.Test.YtkbinfhclaafhaaDoorPtBlk
import Derived.Test.YtkbinfhclaafhaaDoorPtQuo
namespace Go.Proofs.YtkbinfhclaafhaaDoor
open Go.RowKit

/-! parts.Read. -/
@[go_sem] theorem run_store_yield (P : Program) (w : World) (a : Addr) (l : Nat) (m : Mode) : (store a (.func (.yield l) #[] #[]) m).run P w = stored P w a (.func (.yield l) #[] #[]) m := run_store P w a _ m rfl
def startP : RP := ⟨0, 0, 0, 0, 0⟩
set_option maxRecDepth 1000000 in
set_option maxHeartbeats 4000000 in
theorem read_pass (C : RC) (O : RCok C) (lab n : Nat) (a : Act) (w : World) (h : LJ C lab n a w) : findLabel readIn lab = some (.seq .skip (readAt lab)) ∧ Code.wp Tryd.prog (readAt lab) (jumps (fun l' a' w' => ∃ m, m < n ∧ LJ C l' m a' w') (bodyPost Tryd.prog Tryd.f11 (RE C))) a w := by
  obtain ⟨hat, p, st, pre, hW, hcase⟩ := h
  obtain ⟨u0, hat⟩ := hat
  obtain ⟨u1, hat⟩ := hat
  obtain ⟨u2, hat⟩ := hat
  obtain ⟨u3, hat⟩ := hat
  obtain ⟨u5, hat⟩ := hat
  obtain ⟨u6, hat⟩ := hat
  obtain ⟨u7, hat⟩ := hat
  obtain ⟨u8, hat⟩ := hat
  obtain ⟨u9, hat⟩ := hat
  obtain ⟨u10, hat⟩ := hat
  obtain ⟨u11, hat⟩ := hat
  obtain ⟨u12, hat⟩ := hat
  obtain ⟨u13, hat⟩ := hat
  obtain ⟨u14, hat⟩ := hat
  obtain ⟨u15, hat⟩ := hat
  obtain ⟨u16, hat⟩ := hat
  obtain ⟨u17, hat⟩ := hat
  obtain ⟨u18, hat⟩ := hat
  obtain ⟨u19, hat⟩ := hat
  obtain ⟨u20, hat⟩ := hat
  obtain ⟨u21, hat⟩ := hat
  obtain ⟨u22, hat⟩ := hat
  obtain ⟨u23, hat⟩ := hat
  obtain ⟨u24, hat⟩ := hat
  obtain ⟨u25, hat⟩ := hat
  obtain ⟨u26, hat⟩ := hat
  obtain ⟨u27, hat⟩ := hat
  obtain ⟨u28, hat⟩ := hat
  obtain ⟨u29, hat⟩ := hat
  obtain ⟨u30, hat⟩ := hat
  obtain ⟨u31, hat⟩ := hat
  obtain ⟨u32, hat⟩ := hat
  obtain ⟨u33, hat⟩ := hat
  obtain ⟨u34, hat⟩ := hat
  obtain ⟨u35, hat⟩ := hat
  obtain ⟨u36, hat⟩ := hat
  obtain ⟨u37, hat⟩ := hat
  obtain ⟨u38, hat⟩ := hat
  obtain ⟨u39, hat⟩ := hat
  obtain ⟨u40, hat⟩ := hat
  obtain ⟨u41, hat⟩ := hat
  obtain ⟨u42, hat⟩ := hat
  obtain ⟨u43, hat⟩ := hat
  obtain ⟨u44, hat⟩ := hat
  obtain ⟨u45, hat⟩ := hat
  obtain ⟨u46, hat⟩ := hat
  obtain ⟨u47, hat⟩ := hat
  obtain ⟨u48, hat⟩ := hat
  obtain ⟨u49, hat⟩ := hat
  obtain ⟨u50, hat⟩ := hat
  obtain ⟨u51, hat⟩ := hat
  obtain ⟨u52, hat⟩ := hat
  obtain ⟨u53, hat⟩ := hat
  obtain ⟨u54, hat⟩ := hat
  obtain ⟨u55, hat⟩ := hat
  obtain ⟨u56, hat⟩ := hat
  obtain ⟨u57, hat⟩ := hat
  obtain ⟨u58, hat⟩ := hat
  obtain ⟨u59, hat⟩ := hat
  obtain ⟨u60, hat⟩ := hat
  obtain ⟨u61, hat⟩ := hat
  obtain ⟨u62, hat⟩ := hat
  obtain ⟨u63, hat⟩ := hat
  obtain ⟨u64, hat⟩ := hat
  obtain ⟨u65, hat⟩ := hat
  obtain ⟨u66, hat⟩ := hat
  obtain ⟨u67, hat⟩ := hat
  obtain ⟨u68, hat⟩ := hat
  obtain ⟨u69, hat⟩ := hat
  obtain ⟨u70, hat⟩ := hat
  obtain ⟨u71, hat⟩ := hat
  obtain ⟨u72, hat⟩ := hat
  obtain ⟨u73, hat⟩ := hat
  obtain ⟨u74, hat⟩ := hat
  obtain ⟨u75, hat⟩ := hat
  obtain ⟨u76, hat⟩ := hat
  obtain ⟨u77, hat⟩ := hat
  obtain ⟨u78, hat⟩ := hat
  obtain ⟨u79, hat⟩ := hat
  obtain ⟨u80, hat⟩ := hat
  obtain ⟨u81, hat⟩ := hat
  obtain ⟨u82, hat⟩ := hat
  obtain ⟨u83, hat⟩ := hat
  obtain ⟨u84, hat⟩ := hat
  obtain ⟨u85, hat⟩ := hat
  obtain ⟨u86, hat⟩ := hat
  subst hat
  rcases hcase with ⟨rfl, hX, hn⟩ | ⟨rfl, hX, hlt, hn, ⟨rfl, e0⟩ | ⟨rfl, e0, e1⟩ | ⟨rfl, e0, e1⟩⟩
  · exact ⟨rfl, read_code C O w p st pre hW hX n hn _ (fun l m a w hm h => ⟨m, hm, h⟩) _ _ _ _ _ _ _ _ _ _ _ _ _ _ _ _ _ _ _ _ _ _ _ _ _ _ _ _ _ _ _ _ _ _ _ _ _ _ _ _ _ _ _ _ _ _ _ _ _ _ _ _ _ _ _ _ _ _ _ _ _ _ _ _ _ _ _ _ _ _ _ _ _ _ _ _ _ _ _ _ _ _ _ _ _ _⟩
  · exact ⟨rfl, read_quoted C O w p pre hW hX hlt e0 n hn _ (fun l m a w hm h => ⟨m, hm, h⟩) _ _ _ _ _ _ _ _ _ _ _ _ _ _ _ _ _ _ _ _ _ _ _ _ _ _ _ _ _ _ _ _ _ _ _ _ _ _ _ _ _ _ _ _ _ _ _ _ _ _ _ _ _ _ _ _ _ _ _ _ _ _ _ _ _ _ _ _ _ _ _ _ _ _ _ _ _ _ _ _ _ _ _ _ _ _⟩
  · exact ⟨rfl, read_remark C O w p pre hW hX hlt e0 e1 n hn _ (fun l m a w hm h => ⟨m, hm, h⟩) _ _ _ _ _ _ _ _ _ _ _ _ _ _ _ _ _ _ _ _ _ _ _ _ _ _ _ _ _ _ _ _ _ _ _ _ _ _ _ _ _ _ _ _ _ _ _ _ _ _ _ _ _ _ _ _ _ _ _ _ _ _ _ _ _ _ _ _ _ _ _ _ _ _ _ _ _ _ _ _ _ _ _ _ _ _⟩
  · exact ⟨rfl, read_block C O w p pre hW hX hlt e0 e1 n hn _ (fun l m a w hm h => ⟨m, hm, h⟩) _ _ _ _ _ _ _ _ _ _ _ _ _ _ _ _ _ _ _ _ _ _ _ _ _ _ _ _ _ _ _ _ _ _ _ _ _ _ _ _ _ _ _ _ _ _ _ _ _ _ _ _ _ _ _ _ _ _ _ _ _ _ _ _ _ _ _ _ _ _ _ _ _ _ _ _ _ _ _ _ _ _ _ _ _ _⟩
set_option maxRecDepth 1000000 in
set_option maxHeartbeats 4000000 in
theorem read_any (w : World) (s : ByteArray) (l n₀ : Nat) (J Jx : List PR → World → Prop) (T : Tl l n₀ J Jx (runP s false startP)) (hn : n₀ ≤ w.heap.size) (h20 : 6 ≤ n₀) (hz : s.size ≤ 1000) (env : PEnv w) (hJ : J [] w) :
    Calls Tryd.prog 11 #[.string s, .func (.yield l) #[] #[]] w fun e w' => (∃ v, e = .returned v) ∧ Below n₀ w w' ∧ (J (runP s false startP) w' ∨ ∃ pre, pre <+: runP s false startP ∧ Jx pre w') := by
  obtain ⟨C, hC⟩ : ∃ C : RC, C = ⟨w, w.heap.size, s, l, n₀, J, Jx, runP s false startP⟩ := ⟨_, rfl⟩
  have O : RCok C := by subst hC; exact ⟨T, hn, h20, hz, env⟩
  have HR : Hid (RE C = fun e w' => (∃ v, e = .returned v) ∧ Below n₀ w w' ∧ (J (runP s false startP) w' ∨ ∃ pre, pre <+: runP s false startP ∧ Jx pre w')) := by subst hC; rfl
  have h0 : LJ C 3 (2 * s.size + 3) ⟨#[.string s, .func (.yield l) #[] #[], undef, undef, .pointer (some ⟨w.heap.size, 0, none⟩), undef, undef, undef, .string s, .func (.yield l) #[] #[], .agg #[.string s, .func (.yield l) #[] #[], .int .i64 0, .int .i64 0, .int .i64 0, .int .i64 0, .int .i64 0, .bool false], undef, undef, undef, undef, undef, undef, undef, undef, undef, undef, undef, undef, undef, undef, undef, undef, undef, undef, undef, undef, undef, undef, undef, undef, undef, undef, undef, undef, undef, undef, undef, undef, undef, undef, undef, undef, undef, undef, undef, undef, undef, undef, undef, undef, undef, undef, undef, undef, undef, undef, undef, undef, undef, undef, undef, undef, undef, undef, undef, undef, undef, undef, undef, undef, undef, undef, undef, undef, undef, undef, undef, undef, undef, undef, undef, undef], []⟩ (w.alloc (.cells #[.string s, .func (.yield l) #[] #[], .int .i64 0, .int .i64 0, .int .i64 0, .int .i64 0, .int .i64 0, .bool false] 44)) := by
    subst hC
    refine ⟨⟨_, _, _, _, _, _, _, _, _, _, _, _, _, _, _, _, _, _, _, _, _, _, _, _, _, _, _, _, _, _, _, _, _, _, _, _, _, _, _, _, _, _, _, _, _, _, _, _, _, _, _, _, _, _, _, _, _, _, _, _, _, _, _, _, _, _, _, _, _, _, _, _, _, _, _, _, _, _, _, _, _, _, _, _, _, _, rfl⟩, startP, false, [], ⟨⟨World.alloc_heap_new w _, fun _ => T.hJ _ _ _ hJ ⟨rfl, rfl, rfl, by simp, fun k o hk _ => (Below.heap_alloc w _ k (heapLt hk)).trans hk⟩, (fun e => by cases e)⟩, ⟨Nat.le_refl _, Nat.le_refl _, Nat.le_refl _, Nat.zero_le _, Nat.zero_le _, Nat.le_refl _⟩, (Below.refl _ _).alloc hn _⟩, .inl ⟨rfl, fun _ => rfl, by simp [startP]⟩⟩
  rw [← HR.out]
  clear T hn h20 hz env hJ hC HR
  go_enter Tryd.func11, Tryd.ntmps11
  refine wp_scope_labels 3 (LJ C) ?_ rfl (fun lab n a w h => ⟨_, (read_pass C O lab n a w h).1, (read_pass C O lab n a w h).2⟩)
  go_wp2
  exact ⟨_, h0⟩
end Go.Proofs.YtkbinfhclaafhaaDoor
