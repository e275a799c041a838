import Derived.Test.YtkbinfhclaafhaaGreatDoorKeep
import Derived.BigQuiet
import Derived.Deep.QuietTactic
import Derived.Deep.LoopGhost
namespace Go.Proofs.YtkbinfhclaafhaaGreatDoor
open Go.RowKit

/-! Edits, as the document makes them. -/
structure Ed where
  a : Int
  c : Int
  n : ByteArray
def EdsAt (w : World) (b off : Nat) (es : List Ed) : Prop := ∀ i (h : i < es.length), w.cell? ⟨b, off + i * 3, none⟩ = some (.int .i64 es[i].a) ∧ w.cell? ⟨b, off + i * 3 + 1, none⟩ = some (.int .i64 es[i].c) ∧ w.cell? ⟨b, off + i * 3 + 2, none⟩ = some (.string es[i].n)
theorem EdsAt.below {w w' : World} {b off : Nat} {es : List Ed} (h : EdsAt w b off es) (hb : Below w.heap.size w w') : EdsAt w' b off es := fun i hi =>
  let ⟨h1, h2, h3⟩ := h i hi
  ⟨cell_keep hb h1, cell_keep hb h2, cell_keep hb h3⟩
def okE (s : ByteArray) (p : Nat) (e : Ed) : Bool := decide ((p : Int) ≤ e.a) && (decide (0 ≤ e.c) && (decide (e.a ≤ (s.size : Int)) && decide (e.c ≤ (s.size : Int) - e.a)))
def sumN (es : List Ed) : Nat := (es.map (·.n.size)).sum
theorem sumN_app (a b : List Ed) : sumN (a ++ b) = sumN a + sumN b := by simp [sumN]
theorem sumN_take (es : List Ed) (k : Nat) : sumN (es.take k) ≤ sumN es := by
  have : sumN es = sumN (es.take k) + sumN (es.drop k) := by rw [← sumN_app, List.take_append_drop]
  omega
def apStep (s : ByteArray) (x : ByteArray × Nat) (e : Ed) : ByteArray × Nat := if okE s x.2 e = true then (x.1 ++ s.extract x.2 e.a.toNat ++ e.n, (e.a + e.c).toNat) else x
set_option maxRecDepth 100000 in
set_option maxHeartbeats 8000000 in
theorem refApply_row (s : ByteArray) (es : List Ed) (b off m cap : Nat) (w : World) (hs : s.size ≤ 1000000000000000) (hl : es.length = m) (hm : m ≤ 1000000000000000) (hc : EdsAt w b off es) (hN : sumN es ≤ 1000000000000000) :
    Calls Tryz.prog 53 #[.string s, .slice (some ⟨b, off, none⟩) m cap] w fun e w' => e = .returned (.string ((es.foldl (apStep s) (⟨#[]⟩, 0)).1 ++ s.extract (es.foldl (apStep s) (⟨#[]⟩, 0)).2 s.size)) ∧ Below w.heap.size w w' := by
  have HC : Hid (EdsAt w b off es) := hc
  have HL : Hid (es.length = m) := hl
  clear hc hl
  go_enter Tryz.func53, Tryz.ntmps53
  go_wp2
  go_loopg [5, 6, 7] m (fun gk tv pv iv W => ∃ (k p : Nat) (t : ByteArray), k ≤ m ∧ gk = m - k ∧ tv = .string t ∧ pv = .int .i64 p ∧ iv = .int .i64 k ∧ p ≤ s.size ∧ t.size ≤ p + sumN (es.take k) ∧ Below w.heap.size w W ∧ (es.take k).foldl (apStep s) (⟨#[]⟩, 0) = (t, p))
  case atStart => exact ⟨0, 0, ⟨#[]⟩, by omega, rfl, rfl, rfl, rfl, by omega, Nat.zero_le _, Below.refl _ _, rfl⟩
  case round =>
    obtain ⟨k, p, t, hk, rfl, rfl, rfl, rfl, hp, ht, hB, hE⟩ := hrel
    have hsk := sumN_take es k
    have htb : t.size ≤ 2000000000000000 := by omega
    have hbz := hB.size
    by_cases hlt : k < m
    · have hke : k < es.length := by rw [HL.out]; exact hlt
      obtain ⟨c0, c1, c2⟩ := (HC.out.below hB) k hke
      have hE2 : (es.take (k + 1)).foldl (apStep s) (⟨#[]⟩, 0) = apStep s (t, p) es[k] := by
        rw [List.take_add_one, List.getElem?_eq_getElem hke, List.foldl_append, hE]; rfl
      have hkm : (k : Int) < (m : Int) := by omega
      have HB : Hid (Below w.heap.size w wr) := hB
      have hs2 : sumN (es.take (k + 1)) = sumN (es.take k) + es[k].n.size := by rw [List.take_add_one, List.getElem?_eq_getElem hke, sumN_app]; simp [sumN]
      generalize es[k] = e at *
      obtain ⟨ea, ec, en⟩ := e
      simp only at c0 c1 c2 hs2
      have HS2 : Hid (sumN (es.take (k + 1)) = sumN (es.take k) + en.size) := hs2
      clear hs2
      unfold apStep okE at hE2
      simp only at hE2
      clear hB hE
      by_cases h1 : (p : Int) ≤ ea
      · by_cases h2 : 0 ≤ ec
        · by_cases h3 : ea ≤ (s.size : Int)
          · by_cases h4 : ec ≤ (s.size : Int) - ea
            · obtain ⟨na, rfl⟩ : ∃ na : Nat, ea = na := ⟨ea.toNat, by omega⟩
              obtain ⟨nc, rfl⟩ : ∃ nc : Nat, ec = nc := ⟨ec.toNat, by omega⟩
              rw [if_pos (by simp; omega)] at hE2
              have e1 : ((na : Int)).toNat = na := by omega
              have e2 : ((na : Int) + (nc : Int)).toNat = na + nc := by omega
              rw [e1, e2] at hE2
              have HE2 : Hid (List.foldl (apStep s) (⟨#[]⟩, 0) (es.take (k + 1)) = (t ++ s.extract p na ++ en, na + nc)) := hE2
              have g1 : ¬ (na : Int) < (p : Int) := by omega
              have g2 : ¬ (nc : Int) < 0 := by omega
              have g3 : ¬ (s.size : Int) < (na : Int) := by omega
              have g4 : ¬ (s.size : Int) - (na : Int) < (nc : Int) := by omega
              have g5 : (na : Int) ≤ (s.size : Int) := by omega
              have hx : (s.extract p na).size = na - p := by rw [ByteArray.size_extract]; omega
              have hen := HS2.out
              have HT : Hid ((t ++ s.extract p na ++ en).size ≤ na + nc + sumN (es.take (k + 1))) := by
                show _ ≤ _
                rw [ByteArray.size_append, ByteArray.size_append, hx]
                omega
              have hen2 : en.size ≤ 1000000000000000 := by have := sumN_take es (k + 1); omega
              clear hE2 e1 e2 HS2
              go_wp2_with fail
              go_quiet (fail)
              go_wp2
              go_roundg (m - (k + 1))
              case measure => omega
              case rel => exact ⟨k + 1, na + nc, _, by omega, rfl, rfl, by go_num, by go_num, by omega, HT.out, below_drewN (HB.out.alloc hbz _) _, HE2.out⟩
            · rw [if_neg (by simp; omega)] at hE2
              have HE2 : Hid (List.foldl (apStep s) (⟨#[]⟩, 0) (es.take (k + 1)) = (t, p)) := hE2
              clear hE2
              have g4 : (s.size : Int) - ea < ec := by omega
              have g3 : ¬ (s.size : Int) < ea := by omega
              have g1 : ¬ ea < (p : Int) := by omega
              have g2 : ¬ ec < 0 := by omega
              go_wp2
              go_roundg (m - (k + 1))
              case measure => omega
              case rel => exact ⟨k + 1, p, t, by omega, rfl, rfl, rfl, by go_num, hp, by have := HS2.out; omega, HB.out.alloc hbz _, HE2.out⟩
          · rw [if_neg (by simp; omega)] at hE2
            have HE2 : Hid (List.foldl (apStep s) (⟨#[]⟩, 0) (es.take (k + 1)) = (t, p)) := hE2
            clear hE2
            have g3 : (s.size : Int) < ea := by omega
            have g1 : ¬ ea < (p : Int) := by omega
            have g2 : ¬ ec < 0 := by omega
            go_wp2
            go_roundg (m - (k + 1))
            case measure => omega
            case rel => exact ⟨k + 1, p, t, by omega, rfl, rfl, rfl, by go_num, hp, by have := HS2.out; omega, HB.out.alloc hbz _, HE2.out⟩
        · rw [if_neg (by simp; omega)] at hE2
          have HE2 : Hid (List.foldl (apStep s) (⟨#[]⟩, 0) (es.take (k + 1)) = (t, p)) := hE2
          clear hE2
          have g2 : ec < 0 := by omega
          have g1 : ¬ ea < (p : Int) := by omega
          go_wp2
          go_roundg (m - (k + 1))
          case measure => omega
          case rel => exact ⟨k + 1, p, t, by omega, rfl, rfl, rfl, by go_num, hp, by have := HS2.out; omega, HB.out.alloc hbz _, HE2.out⟩
      · rw [if_neg (by simp; omega)] at hE2
        have HE2 : Hid (List.foldl (apStep s) (⟨#[]⟩, 0) (es.take (k + 1)) = (t, p)) := hE2
        clear hE2
        have g1 : ea < (p : Int) := by omega
        go_wp2
        go_roundg (m - (k + 1))
        case measure => omega
        case rel => exact ⟨k + 1, p, t, by omega, rfl, rfl, rfl, by go_num, hp, by have := HS2.out; omega, HB.out.alloc hbz _, HE2.out⟩
    · have e : es.take k = es := List.take_of_length_le (by rw [HL.out]; omega)
      rw [e] at hE
      have HE : Hid (es.foldl (apStep s) (⟨#[]⟩, 0) = (t, p)) := hE
      have HB : Hid (Below w.heap.size w wr) := hB
      have hkm : ¬ (k : Int) < (m : Int) := by omega
      clear hE hB e
      go_wp2
      go_ret
      exact ⟨by rw [HE.out]; rfl, HB.out⟩
end Go.Proofs.YtkbinfhclaafhaaGreatDoor
