import Derived.Test.YtkbinfhclaafhaaDoorPtRd
import Derived.Test.YtkbinfhclaafhaaDoorKeep
import Derived.Deep.LoopGhost
namespace Go.Proofs.YtkbinfhclaafhaaDoor
open Go.RowKit

/-! The document's lines of a text. -/
def linesF (s : ByteArray) (bg i : Nat) : List ByteArray :=
  if i < s.size then if bt s i = 10 then s.extract bg i :: linesF s (i + 1) (i + 1) else linesF s bg (i + 1) else [s.extract bg i]
termination_by s.size - i
theorem linesF_nl {s : ByteArray} {bg i : Nat} (h : i < s.size) (hb : bt s i = 10) : linesF s bg i = s.extract bg i :: linesF s (i + 1) (i + 1) := by rw [linesF, if_pos h, if_pos hb]
theorem linesF_go {s : ByteArray} {bg i : Nat} (h : i < s.size) (hb : ¬ bt s i = 10) : linesF s bg i = linesF s bg (i + 1) := by rw [linesF, if_pos h, if_neg hb]
theorem linesF_end {s : ByteArray} {bg i : Nat} (h : ¬ i < s.size) : linesF s bg i = [s.extract bg i] := by rw [linesF, if_neg h]
theorem linesF_len (s : ByteArray) (bg i : Nat) (h : i ≤ s.size) : (linesF s bg i).length ≤ s.size + 1 - i := by
  fun_induction linesF s bg i with
  | case1 bg i h1 h2 ih => have := ih (by omega); simp only [List.length_cons]; omega
  | case2 bg i h1 h2 ih => have := ih (by omega); omega
  | case3 bg i h1 => simp only [List.length_cons, List.length_nil]; omega
def linesV (l : List ByteArray) : List Value := l.map fun x => .string x
theorem linesV_snoc (l : List ByteArray) (x : ByteArray) : linesV (l ++ [x]) = linesV l ++ [.string x] := by simp [linesV]
theorem Tryd.infoStr : (Tryd.prog.info? 9).map (fun i => (i.zero, i.size, i.bytes)) = some (some (.string ⟨#[]⟩), 1, 16) := by kernel_rfl
theorem lrow_form {w : World} {B : Nat} {e : TypeId} {z n : Nat} {v : Value} {xs : List Value} (h : w.ownsRow B e z v n xs) : ∃ a cap, v = .slice a n cap := by
  rcases h.2 with ⟨rfl, rfl⟩ | ⟨g, cap, cur, rfl, _⟩
  · exact ⟨none, 0, rfl⟩
  · exact ⟨_, cap, rfl⟩
set_option maxRecDepth 100000 in
set_option maxHeartbeats 4000000 in
theorem refLines_any (s : ByteArray) (w : World) (hz : s.size ≤ 900000) : Calls Tryd.prog 9 #[.string s] w fun e w' => ∃ v, e = .returned v ∧ w'.ownsRow w.heap.size 9 1 v (linesF s 0 0).length (linesV (linesF s 0 0)) ∧ Below w.heap.size w w' := by
  obtain ⟨iT, hiT, hzT⟩ : ∃ i, Tryd.prog.info? 9 = some i ∧ (i.zero, i.size, i.bytes) = (some (.string ⟨#[]⟩), 1, 16) := by simpa using Tryd.infoStr
  simp only [Prod.mk.injEq] at hzT
  obtain ⟨hzT0, hzT1, hzT2⟩ := hzT
  obtain ⟨R, hR⟩ : ∃ R, R = linesF s 0 0 := ⟨_, rfl⟩
  rw [← hR]
  have HR : Hid (R = linesF s 0 0) := hR
  clear hR
  go_enter Tryd.func9, Tryd.ntmps9
  go_wp2
  go_loopg [3, 4, 5] (s.size + 1) (fun gk lv fv pv W => ∃ (l : List ByteArray) (fr p : Nat), p ≤ s.size + 1 ∧ gk = s.size + 1 - p ∧ l.length ≤ p ∧ fr ≤ p ∧ fv = .int .i64 fr ∧ pv = .int .i64 p ∧ (p ≤ s.size → l ++ linesF s fr p = R) ∧ (p = s.size + 1 → l = R) ∧ W.ownsRow w.heap.size 9 1 lv l.length (linesV l) ∧ Below w.heap.size w W)
  case atStart => exact ⟨[], 0, 0, by omega, rfl, by simp, by omega, rfl, rfl, fun _ => HR.out.symm, fun h => by omega, World.ownsRow_nil _ _ _ _, Below.refl _ _⟩
  case round =>
    obtain ⟨l, fr, p, hp, rfl, hlp, hfp, rfl, rfl, hj, hd, hown, hb⟩ := hrel
    obtain ⟨qa, qc, rfl⟩ := lrow_form hown
    have HB : Hid (Below w.heap.size w wr) := hb
    have hbz := hb.size
    clear hb
    by_cases hle : p ≤ s.size
    · have hpi : (p : Int) ≤ (s.size : Int) := by omega
      have HJ : Hid (l ++ linesF s fr p = R) := hj hle
      clear hj hd
      by_cases hlt : p < s.size
      · have hne : ((p : Int) == (s.size : Int)) = false := by simp; omega
        have hpl' : (p : Int) < (s.size : Int) := by omega
        have hbp := bt_in hlt
        obtain ⟨c, hc⟩ : ∃ c, s[p]'hlt = c := ⟨_, rfl⟩
        rw [hc] at hbp
        by_cases h10 : bt s p = 10
        · have r10 : (c.toNat : Int) = 10 := by rw [← hbp, h10]
          have H10 : Hid (bt s p = 10) := h10
          clear hbp h10
          go_wp2_with (at_builtin; refine wpList_push2 _ rfl _ _ 39 rfl w.heap.size 9 iT (.string ⟨#[]⟩) 16 Tryd.underlying39 hiT hzT0 hzT1 hzT2 rfl (by decide) _ _ _ rfl hown _ _ rfl rfl (by omega) hbz ?_)
          intro v2 w2 hown2 hg2
          have HB2 : Hid (Below w.heap.size w w2) := HB.out.grown hg2 hbz (fun y hy => (hown.lt y hy).1)
          have HO2 : Hid (w2.ownsRow w.heap.size 9 1 v2 (l.length + 1) (linesV (l ++ [s.extract fr p]))) := by
            show World.ownsRow _ _ _ _ _ _ _
            rw [linesV_snoc]
            exact hown2
          clear hown hown2 hg2
          go_wp2
          go_roundg (s.size + 1 - (p + 1))
          case measure => omega
          case rel => exact ⟨l ++ [s.extract fr p], p + 1, p + 1, by omega, rfl, by simp; omega, by omega, by go_num, by go_num, fun _ => by rw [← HJ.out, linesF_nl hlt H10.out, List.append_assoc]; rfl, fun h => by omega, by simpa using HO2.out, HB2.out⟩
        · have r10 : ((c.toNat : Int) == 10) = false := by rw [hbp] at h10; simpa using h10
          have H10 : Hid (¬ bt s p = 10) := h10
          have HO : Hid (wr.ownsRow w.heap.size 9 1 (.slice qa l.length qc) l.length (linesV l)) := hown
          clear hbp h10 hown
          go_wp2
          go_roundg (s.size + 1 - (p + 1))
          case measure => omega
          case rel => exact ⟨l, fr, p + 1, by omega, rfl, by omega, by omega, rfl, by go_num, fun _ => by rw [← linesF_go hlt H10.out]; exact HJ.out, fun h => by omega, HO.out, HB.out⟩
      · have hpe : p = s.size := by omega
        subst hpe
        go_wp2_with (at_builtin; refine wpList_push2 _ rfl _ _ 39 rfl w.heap.size 9 iT (.string ⟨#[]⟩) 16 Tryd.underlying39 hiT hzT0 hzT1 hzT2 rfl (by decide) _ _ _ rfl hown _ _ rfl rfl (by omega) hbz ?_)
        intro v2 w2 hown2 hg2
        have HB2 : Hid (Below w.heap.size w w2) := HB.out.grown hg2 hbz (fun y hy => (hown.lt y hy).1)
        have HO2 : Hid (w2.ownsRow w.heap.size 9 1 v2 (l.length + 1) (linesV (l ++ [s.extract fr s.size]))) := by
          show World.ownsRow _ _ _ _ _ _ _
          rw [linesV_snoc]
          exact hown2
        clear hown hown2 hg2
        go_wp2
        go_roundg (s.size + 1 - (s.size + 1))
        case measure => omega
        case rel => exact ⟨l ++ [s.extract fr s.size], s.size + 1, s.size + 1, by omega, rfl, by simp; omega, by omega, by go_num, by go_num, fun h => by omega, fun _ => by rw [← HJ.out, linesF_end hlt], by simpa using HO2.out, HB2.out⟩
    · have hpi : ¬ (p : Int) ≤ (s.size : Int) := by omega
      have hlR : l = R := hd (by omega)
      subst hlR
      have HO : Hid (wr.ownsRow w.heap.size 9 1 (.slice qa l.length qc) l.length (linesV l)) := hown
      clear hown hj hd HR
      go_wp2
      go_ret
      exact ⟨_, rfl, HO.out, HB.out⟩
end Go.Proofs.YtkbinfhclaafhaaDoor
