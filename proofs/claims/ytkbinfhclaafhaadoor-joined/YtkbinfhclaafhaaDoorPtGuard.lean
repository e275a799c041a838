import Derived.Test.YtkbinfhclaafhaaDoorPtAll
import Derived.Test.YtkbinfhclaafhaaDoorRfLawB
namespace Go.Proofs.YtkbinfhclaafhaaDoor
open Go.RowKit

/-! guard.Parts. -/
theorem eqIn_func_nil {P : Program} (w : World) (d : Nat) (t : TypeId) (x y : Array TypeId) (b : Bool) (f : Fn) (v : Array Value) (h : P.underlying t = some (.func x y b)) : (Op.equalIn (d + 1) t (.func f #[] v) .nilFunc).run P w = .ok false w := by
  simp [Op.equalIn, run_underlying h]
theorem Tryd.neqYield (l : Nat) (w : World) : (binOp .neq 41 (.func (.yield l) #[] #[]) .nilFunc).run Tryd.prog w = .ok (.bool true) w := by
  have e : (Op.equalIn 10000 41 (.func (.yield l) #[] #[]) .nilFunc).run Tryd.prog w = .ok false w := eqIn_func_nil w 9999 _ _ _ _ _ #[] Tryd.underlying41
  simp only [binOp]
  simp [Op.equal, Op.maxDepth, e]
/-- What guard.Parts tells of a text. -/
def partsX (s : ByteArray) : List PR := if s.size ≤ 600 then runP s false startP else []
set_option maxRecDepth 100000 in
set_option maxHeartbeats 4000000 in
theorem parts1_tells (w0 : World) (n₀ bx : Nat) (s : ByteArray) (hb : w0.cell? ⟨bx, 0, none⟩ = some (.string s)) (env : PEnv w0) (h20 : 6 ≤ n₀) (hn0 : n₀ ≤ w0.heap.size) :
    TellsB n₀ Tryd.prog 10 #[.pointer (some ⟨bx, 0, none⟩)] encP (Kpt n₀) Abd (partsX s) w0 := by
  intro l J Jx W hW hJ hJx hY h0
  have hbW : W.cell? ⟨bx, 0, none⟩ = some (.string s) := cell_keep hW hb
  have henv : PEnv W := env.below h20 (hW.mono hn0)
  show Calls Tryd.prog 10 #[.func (.yield l) #[] #[], .pointer (some ⟨bx, 0, none⟩)] W _
  by_cases hz : s.size ≤ 600
  · have hz' : (s.size : Int) ≤ 600 := by omega
    have hX : partsX s = runP s false startP := if_pos hz
    have hne := fun w => Tryd.neqYield l w
    have HR := read_any W s l n₀ J Jx ⟨hJ, hJx, by rw [← hX]; exact hY⟩ (Nat.le_trans hn0 hW.size) h20 (by omega) henv h0
    rw [← hX] at HR
    clear hJ hJx hY h0 henv hW hX
    go_enter Tryd.func10, Tryd.ntmps10
    go_wp2_with fail
    refine HR.mono ?_
    rintro ev W1 ⟨⟨v, rfl⟩, hb1, h1⟩
    have HB : Hid (Below n₀ W W1) := hb1
    have H1 : Hid (J (partsX s) W1 ∨ ∃ pre, pre <+: partsX s ∧ Jx pre W1) := h1
    clear h1 hb1
    go_wp2
    go_end0
    exact ⟨⟨_, rfl⟩, HB.out, H1.out⟩
  · have hz' : ¬ (s.size : Int) ≤ 600 := by omega
    have hX : partsX s = [] := if_neg hz
    rw [hX]
    have H0 : Hid (J [] W) := h0
    clear hJ hJx hY henv hW hX h0
    go_enter Tryd.func10, Tryd.ntmps10
    go_wp2
    go_end0
    exact ⟨⟨_, rfl⟩, Below.refl _ _, .inl H0.out⟩
set_option maxRecDepth 100000 in
theorem guardParts_any (w : World) (s : ByteArray) : Calls Tryd.prog 8 #[.string s] w fun e w' => e = .returned (.func (.func 10) #[] #[.pointer (some ⟨w.heap.size, 0, none⟩)]) ∧ w' = w.alloc (.cells #[.string s] 9) := by
  go_enter Tryd.func8, Tryd.ntmps8
  go_wp2
  go_ret
  exact ⟨rfl, rfl⟩
end Go.Proofs.YtkbinfhclaafhaaDoor
