import Derived.Test.YtkbinfhclaafhaaDoorJnLaw
import Derived.Test.YtkbinfhclaafhaaDoorUpTo
namespace Go.Proofs.YtkbinfhclaafhaaDoor
open Go.RowKit

/-! The law Joined. -/
theorem takeX_zero (l : List PR) : takeX 0 l = l := by unfold takeX; rw [if_neg (by omega)]
theorem partsX_jn (s : ByteArray) (hz : s.size ≤ 600) : jn (lensF s 0 0) 0 0 (partsX s) := by
  unfold partsX
  rw [if_pos hz]
  have := joined_doc s
  rw [← parts_doc] at this
  exact this
theorem partsX_long (s : ByteArray) (hz : ¬ s.size ≤ 600) : partsX s = [] := by unfold partsX; rw [if_neg hz]
theorem rows_lie {w : World} {B : Nat} {e1 e2 : TypeId} {v1 v2 : Value} {l : List PR} (h1 : w.ownsRow B e1 1 v1 l.length (lineV l)) (h2 : w.ownsRow B e2 5 v2 l.length (partV l)) :
    ∃ x1 c1 x2 c2, v1 = .slice x1 l.length c1 ∧ v2 = .slice x2 l.length c2 ∧ (0 < l.length → ∃ g1 g2, x1 = some ⟨g1, 0, none⟩ ∧ x2 = some ⟨g2, 0, none⟩ ∧ l.length ≤ c1 ∧ l.length ≤ c2 ∧ LinesLie w g1 l ∧ PartsLie w g2 l) := by
  obtain ⟨x1, c1, rfl⟩ := lrow_form h1
  obtain ⟨x2, c2, rfl⟩ := lrow_form h2
  refine ⟨x1, c1, x2, c2, rfl, rfl, fun h0 => ?_⟩
  obtain ⟨g1, d1, e1, hd1⟩ := jrow_some h1 h0
  obtain ⟨g2, d2, e2, hd2⟩ := jrow_some h2 h0
  simp only [Value.slice.injEq, true_and] at e1 e2
  obtain ⟨rfl, rfl⟩ := e1
  obtain ⟨rfl, rfl⟩ := e2
  refine ⟨g1, g2, rfl, rfl, hd1, hd2, fun i x hx => ?_, fun i x hx => ?_⟩
  · have hi : i < l.length := (List.getElem?_eq_some_iff.1 hx).1
    rw [World.ownsRow.cellAt h1 i (by omega)]
    simp [lineV, hx]
  · have hi : i < l.length := (List.getElem?_eq_some_iff.1 hx).1
    obtain ⟨k1, k2⟩ := partV_at l i hi
    have he : l[i] = x := (List.getElem?_eq_some_iff.1 hx).2
    rw [he] at k1 k2
    exact ⟨by rw [World.ownsRow.cellAt h2 (i * 5 + 1) (by omega)]; exact k1, by rw [World.ownsRow.cellAt h2 (i * 5 + 2) (by omega)]; exact k2⟩
set_option maxRecDepth 100000 in
set_option maxHeartbeats 4000000 in
theorem joined_law_row (ops : List OpD) (b off cap n : Nat) (w : World) (env : PEnv w) (h20 : 6 ≤ w.heap.size) (hl : ops.length = n) (hn : n ≤ 1000000000000000) (hc : OpsAt w b off ops) :
    Calls Tryd.prog 4 #[.slice (some ⟨b, off, none⟩) n cap] w fun e w' => e = .returned (.bool true) ∧ Below w.heap.size w w' := by
  have HC : Hid (OpsAt w b off ops) := hc
  have HL : Hid (ops.length = n) := hl
  have HE : Hid (∀ W, Below w.heap.size w W → PEnv W ∧ 6 ≤ W.heap.size) := fun W hW => ⟨env.below h20 hW, Nat.le_trans h20 hW.size⟩
  clear hc hl env h20
  go_enter Tryd.func4, Tryd.ntmps4
  go_wp2
  go_loopg [3, 4, 5, 6, 7] n (fun gk i _ _ _ _ wr => ∃ k : Nat, k ≤ n ∧ gk = n - k ∧ i = .int .i64 k ∧ Below w.heap.size w wr)
  case atStart => exact ⟨0, Nat.zero_le _, rfl, rfl, Below.refl _ _⟩
  case round =>
    obtain ⟨k, hk, rfl, rfl, hb⟩ := hrel
    have hbz := hb.size
    have hk60 : (k : Int) < 1152921504606846976 := by omega
    have HB : Hid (Below w.heap.size w wr) := hb
    by_cases hlt : k < n
    · have hlt' : (k : Int) < (n : Int) := by omega
      have hkl : k < ops.length := by rw [HL.out]; exact hlt
      obtain ⟨c0, c1, c2, c3, ao, m, cc, he⟩ := (HC.out.below hb) k hkl
      obtain ⟨henv, hpn⟩ := HE.out wr hb
      generalize ops[k] = o at *
      obtain ⟨ok, oa, os, oe⟩ := o
      simp only at c0 c1 c2 c3 he
      have HPc : Hid (Calls Tryd.prog 6 #[.string os, .int .i64 0] wr fun e w' => ∃ v1 v2 l, e = .returned (.tuple #[v1, v2]) ∧ w'.ownsRow wr.heap.size 3 1 v1 l.length (lineV l) ∧ w'.ownsRow wr.heap.size 38 5 v2 l.length (partV l) ∧ Below wr.heap.size wr w' ∧ ((l = partsX os ∧ GoesOn 0 l) ∨ (l <+: partsX os ∧ Stops 0 l))) := plainParts_any wr os 0 henv hpn
      clear hkl hb henv hpn he c0 c1 c3
      go_wp2_with fail
      refine HPc.out.mono ?_
      clear HPc
      rintro e w3 ⟨v1, v2, l, rfl, hr1, hr2, hb3, hl⟩
      have hle := told_eq hl
      rw [takeX_zero] at hle
      obtain ⟨x1, d1, x2, d2, rfl, rfl, hlie⟩ := rows_lie hr1 hr2
      have HB3 : Hid (Below w.heap.size w w3) := HB.out.trans (hb3.mono hbz)
      have hz3 := HB3.out.size
      clear hr1 hr2 hl hb3 c2
      by_cases hos : os.size ≤ 600
      · have hos' : ¬ (os.size : Int) > 600 := by omega
        have hj := partsX_jn os hos
        rw [← hle] at hj
        have hl6 : l.length ≤ 600 := by rw [hle]; exact partsX_len os
        have HJc : Hid (Calls Tryd.prog 7 #[.string os, .slice x1 l.length d1, .slice x2 l.length d2] w3 fun e w' => e = .returned (.bool true) ∧ Below w3.heap.size w3 w') := joined_any os l l.length d1 d2 x1 x2 w3 hos rfl hl6 hj hlie
        clear hj hlie hle hos hl6
        have HZ3 : Hid (w.heap.size ≤ w3.heap.size) := hz3
        generalize l.length = q at *
        have HK60 : Hid (∀ _ : Unit, (k : Int) < 1152921504606846976) := fun _ => hk60
        clear hz3 hbz hk60 hk hn
        go_wp2_with fail
        refine HJc.out.mono ?_
        rintro e w4 ⟨rfl, hb4⟩
        have HB4 : Hid (Below w.heap.size w w4) := HB3.out.trans (hb4.mono HZ3.out)
        clear hb4 HJc
        have hk60 := HK60.out ()
        go_wp2
        go_roundg (n - (k + 1))
        case measure => omega
        case rel => exact ⟨k + 1, by omega, rfl, by go_num, HB4.out⟩
      · have hos' : (os.size : Int) > 600 := by omega
        rw [partsX_long os hos] at hle
        subst hle
        clear hlie
        simp only [List.length_nil]
        go_wp2
        go_roundg (n - (k + 1))
        case measure => omega
        case rel => exact ⟨k + 1, by omega, rfl, by go_num, HB3.out⟩
    · have hlt' : ¬ (k : Int) < (n : Int) := by omega
      clear hb
      go_wp2
      go_ret
      exact ⟨rfl, HB.out⟩
theorem joined_law_zero (ao : Option Addr) (cap : Nat) (w : World) :
    Calls Tryd.prog 4 #[.slice ao 0 cap] w fun e w' => e = .returned (.bool true) ∧ Below w.heap.size w w' := by
  go_enter Tryd.func4, Tryd.ntmps4
  go_wp2
  refine wp_loop_rounds 1 ?_
  rw [rounds_succ]
  go_wp2
  go_ret
  exact ⟨rfl, Below.refl _ _⟩
end Go.Proofs.YtkbinfhclaafhaaDoor
