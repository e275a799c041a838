import Derived.Test.YtkbinfhclaafhaaGreatDoorRunesDef
import Derived.Test.YtkbinfhclaafhaaGreatDoorSizeAny
namespace Go.Proofs.YtkbinfhclaafhaaGreatDoor
open Go.RowKit

theorem runesFrom_end (s : ByteArray) (f p : Nat) (h : ¬ p < s.size) : runesFrom s f p = some [] := by
  cases f with
  | zero => rfl
  | succ f => simp [runesFrom, h]
theorem runesFrom_bad (s : ByteArray) (f p : Nat) (hf : s.size ≤ p + f) (h : p < s.size) (hz : szAt s p = 0) : runesFrom s f p = none := by
  cases f with
  | zero => omega
  | succ f => simp [runesFrom, h, hz]
theorem runesFrom_step (s : ByteArray) (f p : Nat) (hf : s.size ≤ p + f) (h : p < s.size) (hz : szAt s p ≠ 0) :
    ∃ f', s.size ≤ p + szAt s p + f' ∧ runesFrom s f p = (runesFrom s f' (p + szAt s p)).map (runeAt s p :: ·) := by
  cases f with
  | zero => omega
  | succ f => exact ⟨f, by omega, by simp [runesFrom, h, hz]⟩

/-- What holds when a loop has come to a place of a text with some runes gathered. -/
def RunesTo (s : ByteArray) (p : Nat) (l : List Int) : Prop := ∃ f, s.size ≤ p + f ∧ l.length ≤ p ∧ runesOf s = (runesFrom s f p).map (l ++ ·)
theorem RunesTo.start (s : ByteArray) : RunesTo s 0 [] := ⟨s.size, by omega, by simp, by simp [runesOf]⟩
theorem RunesTo.stop {s : ByteArray} {p : Nat} {l : List Int} (h : RunesTo s p l) (hp : ¬ p < s.size) : runesOf s = some l := by
  obtain ⟨f, _, _, e⟩ := h
  rw [e, runesFrom_end s f p hp]; simp
theorem RunesTo.bad {s : ByteArray} {p : Nat} {l : List Int} (h : RunesTo s p l) (hp : p < s.size) (hz : szAt s p = 0) : runesOf s = none := by
  obtain ⟨f, hf, _, e⟩ := h
  rw [e, runesFrom_bad s f p hf hp hz]; rfl
theorem RunesTo.step {s : ByteArray} {p : Nat} {l : List Int} (h : RunesTo s p l) (hp : p < s.size) (hz : szAt s p ≠ 0) : RunesTo s (p + szAt s p) (l ++ [runeAt s p]) := by
  obtain ⟨f, hf, hl, e⟩ := h
  obtain ⟨f', hf', e'⟩ := runesFrom_step s f p hf hp hz
  refine ⟨f', hf', by simp; omega, ?_⟩
  rw [e, e']
  cases runesFrom s f' (p + szAt s p) <;> simp

set_option maxRecDepth 100000 in
set_option maxHeartbeats 4000000 in
theorem runes_any (s : ByteArray) (w : World) (hs : s.size ≤ 1000) :
    Calls Tryz.prog 67 #[.string s] w fun e w' => Below w.heap.size w w' ∧
      ((runesOf s = none ∧ ∃ p : Nat, e = .returned (.tuple #[.slice none 0 0, .int .i64 p])) ∨
       ∃ v l, runesOf s = some l ∧ l.length ≤ s.size ∧ e = .returned (.tuple #[v, .int .i64 (-1)]) ∧ w'.ownsRow w.heap.size 3 1 v l.length (l.map (Value.int .i64))) := by
  obtain ⟨i0, hi, hz0, hz1, hz2⟩ := info_parts Tryz.infoInt
  go_enter Tryz.func67, Tryz.ntmps67
  go_wp2
  go_loopw [4, 5] (fun v i wr => ∃ (p : Nat) (l : List Int), p ≤ s.size ∧ i = .int .i64 p ∧ RunesTo s p l ∧ wr.ownsRow w.heap.size 3 1 v l.length (l.map (Value.int .i64)) ∧ Below w.heap.size w wr) (fun _ i _ => s.size - (intOf i).toNat)
  case atStart => exact ⟨0, [], Nat.zero_le _, rfl, RunesTo.start s, World.ownsRow_nil _ _ _ _, Below.refl _ _⟩
  case round =>
    obtain ⟨p, l, hp, rfl, hR, hown, hb⟩ := hrel
    have HR : Hid (RunesTo s p l) := hR
    have hbz := hb.size
    have hll : l.length ≤ p := by obtain ⟨f, _, h, _⟩ := hR; exact h
    clear hR
    by_cases hlt : p < s.size
    · have hlt' : (p : Int) < (s.size : Int) := by omega
      have HZ := sz_extract s p hlt
      have hsz : (s.extract p s.size).size = s.size - p := size_extract_end s p
      by_cases hz : szAt s p = 0
      · rw [hz] at HZ
        have HC : Hid (Calls Tryz.prog 112 #[.string (s.extract p s.size)] wr fun e w' => e = .returned (.int .i64 0) ∧ w' = wr) := by
          have := size_any (s.extract p s.size) wr (by omega) (by omega)
          rw [HZ] at this
          exact this
        have HZ0 : Hid (szAt s p = 0) := hz
        clear HZ hsz hz
        go_wp2_with fail
        refine HC.out.mono ?_
        rintro e w' ⟨rfl, rfl⟩
        go_wp2
        go_ret2
        exact ⟨hb, .inl ⟨HR.out.bad hlt HZ0.out, p, rfl⟩⟩
      rcases sz_cases s p hlt hz with ⟨e1, h1, hr⟩ | ⟨e1, hn, h1, h2, h3, h4, hr⟩ | ⟨e1, hn, h1, h2, h3, h4, h5, h6, hr⟩ | ⟨e1, hn, h1, h2, h3, h4, h5, h6, h7, h8, hr⟩
      · have hz' : szAt s p ≠ 0 := by omega
        have HS : Hid (RunesTo s (p + 1) (l ++ [runeAt s p])) := e1 ▸ HR.out.step hlt hz'
        have HV : Hid (runeAt s p = _) := hr
        rw [e1] at HZ
        have HC : Hid (Calls Tryz.prog 112 #[.string (s.extract p s.size)] wr fun e w' => e = .returned (.int .i64 1) ∧ w' = wr) := by
          have := size_any (s.extract p s.size) wr (by omega) (by omega)
          rw [HZ] at this
          exact this
        clear HZ hsz hz hz' hr e1 HR
        have hi0 : s[p]'(by omega) = s.get! (p) := (get_eq s (p) (by omega)).symm
        have hl0 : ((s.get! (p)).toNat : Int) < 256 := by have := (s.get! (p)).toNat_lt; omega
        generalize s.get! (p) = c0 at *
        go_wp2_with fail
        refine HC.out.mono ?_
        rintro e w' ⟨rfl, rfl⟩
        clear HC
        go_wp2
        refine wp_loop_rounds 1 ?_
        rw [rounds_succ]
        go_wp2_with (at_builtin; refine wpList_push _ rfl _ _ 31 rfl w.heap.size 3 i0 (.int .i64 0) 8 Tryz.underlying31 hi hz0 hz1 hz2 rfl (by decide) _ _ _ rfl hown _ _ rfl rfl (by omega) (by omega) ?_)
        intro v' w1 hown' hb'
        clear hown
        go_wp2
        go_roundw
        case rel => exact ⟨p + 1, _, by omega, by go_num, HS.out, by rw [HV.out]; simpa using hown', hb.trans hb'⟩
        case measure => simp [intOf]; omega
      · have hz' : szAt s p ≠ 0 := by omega
        have HS : Hid (RunesTo s (p + 2) (l ++ [runeAt s p])) := e1 ▸ HR.out.step hlt hz'
        have HV : Hid (runeAt s p = _) := hr
        rw [e1] at HZ
        have HC : Hid (Calls Tryz.prog 112 #[.string (s.extract p s.size)] wr fun e w' => e = .returned (.int .i64 2) ∧ w' = wr) := by
          have := size_any (s.extract p s.size) wr (by omega) (by omega)
          rw [HZ] at this
          exact this
        clear HZ hsz hz hz' hr e1 HR
        have hi0 : s[p]'(by omega) = s.get! (p) := (get_eq s (p) (by omega)).symm
        have hl0 : ((s.get! (p)).toNat : Int) < 256 := by have := (s.get! (p)).toNat_lt; omega
        have hi1 : s[p + 1]'(by omega) = s.get! (p + 1) := (get_eq s (p + 1) (by omega)).symm
        have hl1 : ((s.get! (p + 1)).toNat : Int) < 256 := by have := (s.get! (p + 1)).toNat_lt; omega
        generalize s.get! (p) = c0 at *
        generalize s.get! (p + 1) = c1 at *
        have ha : bits .and .i64 (c0.toNat : Int) 31 = ((c0.toNat % 32 : Nat) : Int) := and31 ⟨c0.toNat, c0.toNat_lt⟩
        go_wp2_with fail
        refine HC.out.mono ?_
        rintro e w' ⟨rfl, rfl⟩
        clear HC
        go_wp2
        refine wp_loop_rounds 2 ?_
        rw [rounds_succ]
        go_wp2
        rw [rounds_succ]
        go_wp2_with (at_builtin; refine wpList_push _ rfl _ _ 31 rfl w.heap.size 3 i0 (.int .i64 0) 8 Tryz.underlying31 hi hz0 hz1 hz2 rfl (by decide) _ _ _ rfl hown _ _ rfl rfl (by omega) (by omega) ?_)
        intro v' w1 hown' hb'
        clear hown
        go_wp2
        go_roundw
        case rel => exact ⟨p + 2, _, by omega, by go_num, HS.out, by rw [HV.out]; simpa using hown', hb.trans hb'⟩
        case measure => simp [intOf]; omega
      · have hz' : szAt s p ≠ 0 := by omega
        have HS : Hid (RunesTo s (p + 3) (l ++ [runeAt s p])) := e1 ▸ HR.out.step hlt hz'
        have HV : Hid (runeAt s p = _) := hr
        rw [e1] at HZ
        have HC : Hid (Calls Tryz.prog 112 #[.string (s.extract p s.size)] wr fun e w' => e = .returned (.int .i64 3) ∧ w' = wr) := by
          have := size_any (s.extract p s.size) wr (by omega) (by omega)
          rw [HZ] at this
          exact this
        clear HZ hsz hz hz' hr e1 HR
        have hi0 : s[p]'(by omega) = s.get! (p) := (get_eq s (p) (by omega)).symm
        have hl0 : ((s.get! (p)).toNat : Int) < 256 := by have := (s.get! (p)).toNat_lt; omega
        have hi1 : s[p + 1]'(by omega) = s.get! (p + 1) := (get_eq s (p + 1) (by omega)).symm
        have hl1 : ((s.get! (p + 1)).toNat : Int) < 256 := by have := (s.get! (p + 1)).toNat_lt; omega
        have hi2 : s[p + 2]'(by omega) = s.get! (p + 2) := (get_eq s (p + 2) (by omega)).symm
        have hl2 : ((s.get! (p + 2)).toNat : Int) < 256 := by have := (s.get! (p + 2)).toNat_lt; omega
        generalize s.get! (p) = c0 at *
        generalize s.get! (p + 1) = c1 at *
        generalize s.get! (p + 2) = c2 at *
        have ha : bits .and .i64 (c0.toNat : Int) 15 = ((c0.toNat % 16 : Nat) : Int) := and15 ⟨c0.toNat, c0.toNat_lt⟩
        go_wp2_with fail
        refine HC.out.mono ?_
        rintro e w' ⟨rfl, rfl⟩
        clear HC
        go_wp2
        refine wp_loop_rounds 3 ?_
        rw [rounds_succ]
        go_wp2
        rw [rounds_succ]
        go_wp2
        rw [rounds_succ]
        go_wp2_with (at_builtin; refine wpList_push _ rfl _ _ 31 rfl w.heap.size 3 i0 (.int .i64 0) 8 Tryz.underlying31 hi hz0 hz1 hz2 rfl (by decide) _ _ _ rfl hown _ _ rfl rfl (by omega) (by omega) ?_)
        intro v' w1 hown' hb'
        clear hown
        go_wp2
        go_roundw
        case rel => exact ⟨p + 3, _, by omega, by go_num, HS.out, by rw [HV.out]; simpa using hown', hb.trans hb'⟩
        case measure => simp [intOf]; omega
      · have hz' : szAt s p ≠ 0 := by omega
        have HS : Hid (RunesTo s (p + 4) (l ++ [runeAt s p])) := e1 ▸ HR.out.step hlt hz'
        have HV : Hid (runeAt s p = _) := hr
        rw [e1] at HZ
        have HC : Hid (Calls Tryz.prog 112 #[.string (s.extract p s.size)] wr fun e w' => e = .returned (.int .i64 4) ∧ w' = wr) := by
          have := size_any (s.extract p s.size) wr (by omega) (by omega)
          rw [HZ] at this
          exact this
        clear HZ hsz hz hz' hr e1 HR
        have hi0 : s[p]'(by omega) = s.get! (p) := (get_eq s (p) (by omega)).symm
        have hl0 : ((s.get! (p)).toNat : Int) < 256 := by have := (s.get! (p)).toNat_lt; omega
        have hi1 : s[p + 1]'(by omega) = s.get! (p + 1) := (get_eq s (p + 1) (by omega)).symm
        have hl1 : ((s.get! (p + 1)).toNat : Int) < 256 := by have := (s.get! (p + 1)).toNat_lt; omega
        have hi2 : s[p + 2]'(by omega) = s.get! (p + 2) := (get_eq s (p + 2) (by omega)).symm
        have hl2 : ((s.get! (p + 2)).toNat : Int) < 256 := by have := (s.get! (p + 2)).toNat_lt; omega
        have hi3 : s[p + 3]'(by omega) = s.get! (p + 3) := (get_eq s (p + 3) (by omega)).symm
        have hl3 : ((s.get! (p + 3)).toNat : Int) < 256 := by have := (s.get! (p + 3)).toNat_lt; omega
        generalize s.get! (p) = c0 at *
        generalize s.get! (p + 1) = c1 at *
        generalize s.get! (p + 2) = c2 at *
        generalize s.get! (p + 3) = c3 at *
        have ha : bits .and .i64 (c0.toNat : Int) 7 = ((c0.toNat % 8 : Nat) : Int) := and7i ⟨c0.toNat, c0.toNat_lt⟩
        go_wp2_with fail
        refine HC.out.mono ?_
        rintro e w' ⟨rfl, rfl⟩
        clear HC
        go_wp2
        refine wp_loop_rounds 4 ?_
        rw [rounds_succ]
        go_wp2
        rw [rounds_succ]
        go_wp2
        rw [rounds_succ]
        go_wp2
        rw [rounds_succ]
        go_wp2_with (at_builtin; refine wpList_push _ rfl _ _ 31 rfl w.heap.size 3 i0 (.int .i64 0) 8 Tryz.underlying31 hi hz0 hz1 hz2 rfl (by decide) _ _ _ rfl hown _ _ rfl rfl (by omega) (by omega) ?_)
        intro v' w1 hown' hb'
        clear hown
        go_wp2
        go_roundw
        case rel => exact ⟨p + 4, _, by omega, by go_num, HS.out, by rw [HV.out]; simpa using hown', hb.trans hb'⟩
        case measure => simp [intOf]; omega
    · go_wp2
      go_ret2
      exact ⟨hb, .inr ⟨_, l, HR.out.stop hlt, by omega, rfl, hown⟩⟩
end Go.Proofs.YtkbinfhclaafhaaGreatDoor
