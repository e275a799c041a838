import Derived.Test.YtkbinfhclaafhaaGreatDoorSpans
import Derived.Test.YtkbinfhclaafhaaGreatDoorKeep
import Derived.Lib.IndexAny
namespace Go.Proofs.YtkbinfhclaafhaaGreatDoor
open Go.RowKit

/-- What the package-level variables hold. -/
structure Env (w : World) (aL aT aC : Addr) : Prop where
  long : w.cell? ⟨0, 0, none⟩ = some (.iface 354 (.pointer (some aL)))
  text : w.cell? ⟨1, 0, none⟩ = some (.iface 354 (.pointer (some aT)))
  code : w.cell? ⟨2, 0, none⟩ = some (.iface 354 (.pointer (some aC)))
  etype : w.cell? ⟨3, 0, none⟩ = some (.iface 223 (.agg #[.pointer (some ⟨16, 53, none⟩)]))
  tabs : Lib.Utf8Tabs (Tryz.lays196_ren.g 3) (Tryz.lays196_ren.g 4) w
  spans : ∃ t fr, w.heap[4]? = some (.cells spansV t fr)
  neLT : aL ≠ aT
  neTC : aT ≠ aC
  neLC : aL ≠ aC
  blkL : ∃ c t, w.heap[aL.block]? = some (.cells c t (0, 0))
  blkT : ∃ c t, w.heap[aT.block]? = some (.cells c t (0, 0))
  blkC : ∃ c t, w.heap[aC.block]? = some (.cells c t (0, 0))

theorem Env.below {w w' : World} {aL aT aC : Addr} (h : Env w aL aT aC) (hb : Below w.heap.size w w') : Env w' aL aT aC where
  long := cell_keep hb h.long
  text := cell_keep hb h.text
  code := cell_keep hb h.code
  etype := cell_keep hb h.etype
  tabs := Utf8Tabs_below h.tabs hb
  spans := by obtain ⟨t, fr, h⟩ := h.spans; exact ⟨t, fr, heap_keep hb h⟩
  neLT := h.neLT
  neTC := h.neTC
  neLC := h.neLC
  blkL := by obtain ⟨c, t, h⟩ := h.blkL; exact ⟨c, t, heap_keep hb h⟩
  blkT := by obtain ⟨c, t, h⟩ := h.blkT; exact ⟨c, t, heap_keep hb h⟩
  blkC := by obtain ⟨c, t, h⟩ := h.blkC; exact ⟨c, t, heap_keep hb h⟩

/-! bidi.ClassOf -/
theorem Tryz.sizeSpans : (Tryz.prog.info? 176).map (·.size) = some spansV.size := by kernel_rfl

set_option maxRecDepth 100000 in
set_option maxHeartbeats 2000000 in
theorem classOf_any (r : Int) (w : World) (t : TypeId) (fr : Nat × Nat) (hsp : w.heap[4]? = some (.cells spansV t fr)) :
    Calls Tryz.prog 66 #[.int .i32 r] w fun e w' => e = .returned (.int .i64 (cls r)) ∧ Below w.heap.size w w' := by
  have hnd : ∀ (k : Nat) (_ : k < 36) (wx : World), (Instr.index 176 (.agg spansV) (.int .i64 k)).run Tryz.prog wx = .ok (.agg #[.int .i32 (spansL.getD k (0, 0, 0)).1, .int .i32 (spansL.getD k (0, 0, 0)).2.1, .int .i64 (spansL.getD k (0, 0, 0)).2.2]) wx := idx_span
  have HI : Hid (∀ (k : Nat) (_ : k < 36) (wx : World), (Instr.index 176 (.agg spansV) (.int .i64 k)).run Tryz.prog wx = .ok (.agg #[.int .i32 (spansL.getD k (0, 0, 0)).1, .int .i32 (spansL.getD k (0, 0, 0)).2.1, .int .i64 (spansL.getD k (0, 0, 0)).2.2]) wx) := hnd
  have HH : Hid (w.heap[4]? = some (.cells spansV t fr)) := hsp
  have HZ := Tryz.sizeSpans
  clear hnd hsp
  generalize spansV = sv at HI HH HZ
  go_enter Tryz.func66, Tryz.ntmps66
  go_wp2_with (refine wpList_load_row rfl 176 _ rfl 4 rfl t _ fr _ HH.out Tryz.underlying176 rfl HZ ?_)
  go_loopw [6] (fun i wr => ∃ k : Nat, k ≤ 36 ∧ i = .int .i64 k ∧ (∀ j, j < k → ¬ ((spansL.getD j (0, 0, 0)).1 ≤ r ∧ r ≤ (spansL.getD j (0, 0, 0)).2.1)) ∧ Below w.heap.size w wr) (fun i _ => 36 - (intOf i).toNat)
  case atStart => exact ⟨0, Nat.zero_le _, rfl, fun j h => absurd h (by omega), Below.refl _ _⟩
  case round =>
    obtain ⟨k, hk, rfl, hno, hb⟩ := hrel
    have HN : Hid (∀ j, j < k → ¬ ((spansL.getD j (0, 0, 0)).1 ≤ r ∧ r ≤ (spansL.getD j (0, 0, 0)).2.1)) := hno
    have hbz := hb.size
    clear hno
    by_cases hlt : k < 36
    · have hlt' : (k : Int) < 36 := by omega
      have hix := fun wx => HI.out k hlt wx
      have HC : Hid _ := cls_hit r k hlt
      obtain ⟨a, b, c, habc⟩ : ∃ a b c, spansL.getD k (0, 0, 0) = (a, b, c) := ⟨_, _, _, rfl⟩
      simp only [habc] at hix
      have HA : Hid (spansL.getD k (0, 0, 0) = (a, b, c)) := habc
      clear habc
      by_cases h1 : a ≤ r
      · by_cases h2 : r ≤ b
        · go_wp2
          go_ret
          refine ⟨ret_int ?_, hb.alloc hbz _⟩
          have := HC.out
          rw [HA.out] at this
          exact (this h1 h2).symm
        · have h2' : decide (r ≤ b) = false := by simpa using h2
          go_wp2
          go_roundw
          case rel =>
            refine ⟨k + 1, by omega, by go_num, fun j hj => ?_, hb.alloc hbz _⟩
            by_cases hjk : j < k
            · exact HN.out j hjk
            · obtain rfl : j = k := by omega
              rw [HA.out]; show ¬ (a ≤ r ∧ r ≤ b); omega
          case measure => simp [intOf]; omega
      · have h1' : decide (a ≤ r) = false := by simpa using h1
        go_wp2
        go_roundw
        case rel =>
          refine ⟨k + 1, by omega, by go_num, fun j hj => ?_, hb.alloc hbz _⟩
          by_cases hjk : j < k
          · exact HN.out j hjk
          · obtain rfl : j = k := by omega
            rw [HA.out]; show ¬ (a ≤ r ∧ r ≤ b); omega
        case measure => simp [intOf]; omega
    · go_wp2
      go_ret
      exact ⟨ret_int (cls_miss r fun j hj => HN.out j (by omega)).symm, hb⟩

/-! guard.checkLine -/
def errV (e : Int) (aL aT aC : Addr) : Value := if e = 0 then .nilIface else if e = 1 then .iface 354 (.pointer (some aL)) else if e = 2 then .iface 354 (.pointer (some aT)) else .iface 354 (.pointer (some aC))

theorem valid_call (s : ByteArray) (w : World) (hs : s.size ≤ 9223372036854775807) (hT : Lib.Utf8Tabs (Tryz.lays196_ren.g 3) (Tryz.lays196_ren.g 4) w) :
    Calls Tryz.prog 81 #[.string s] w fun e w' => e = .returned (.bool (runesOf s).isSome) ∧ Below w.heap.size w w' := by
  have := Any.utf8_ValidString Tryz.lays196 s w hs hT
  rw [valid_eq] at this
  exact this
theorem contains_call (s : ByteArray) (w : World) :
    Calls Tryz.prog 82 #[.string s, .string ⟨#[10]⟩] w fun e w' => e = .returned (.bool (s.data.toList.contains 10)) ∧ w' = w := by
  have := Any.strings_Contains_one Tryz.lays144 s 10 w
  rw [← Lib.contains_iff_indexByte] at this
  exact this
theorem count_call (s : ByteArray) (w : World) (hs : s.size < 9223372036854775807) :
    Calls Tryz.prog 83 #[.string s] w fun e w' => e = .returned (.int .i64 (Lib.runeCount s)) ∧ Below w.heap.size w w' :=
  (Any.utf8_RuneCountInString Tryz.lays195 s w hs).mono fun e w' ⟨he, pos, hw⟩ => ⟨he, by subst hw; exact (Below.refl _ _).alloc (Nat.le_refl _) _⟩

set_option maxHeartbeats 2000000 in
theorem check_any (s : ByteArray) (w : World) (aL aT aC : Addr) (hs : s.size ≤ 9223372036854775807) (hE : Env w aL aT aC) :
    Calls Tryz.prog 54 #[.string s] w fun e w' => e = .returned (errV (askErr s) aL aT aC) ∧ Below w.heap.size w w' := by
  by_cases h6 : 600 < s.size
  · have he : errV (askErr s) aL aT aC = .iface 354 (.pointer (some aL)) := by rw [ask_long h6]; rfl
    rw [he]
    have hc := hE.long
    have h6' : (600 : Int) < (s.size : Int) := by omega
    clear he
    go_enter Tryz.func54, Tryz.ntmps54
    go_wp2
    go_ret
    exact ⟨rfl, Below.refl _ _⟩
  have h6' : (s.size : Int) ≤ 600 := by omega
  have hv := valid_call s w hs hE.tabs
  cases hr : runesOf s with
  | none =>
    have he : errV (askErr s) aL aT aC = .iface 354 (.pointer (some aT)) := by rw [ask_none h6 hr]; rfl
    rw [he]
    have HV : Hid (Calls Tryz.prog 81 #[.string s] w fun e w' => e = .returned (.bool false) ∧ Below w.heap.size w w') := by rw [hr] at hv; exact hv
    have HE : Hid (Env w aL aT aC) := hE
    clear he hr hv hE
    go_enter Tryz.func54, Tryz.ntmps54
    go_wp2_with fail
    refine HV.out.mono ?_
    rintro e w1 ⟨rfl, hb⟩
    have hc := (HE.out.below hb).text
    go_wp2
    go_ret
    exact ⟨rfl, hb⟩
  | some l =>
    have HV : Hid (Calls Tryz.prog 81 #[.string s] w fun e w' => e = .returned (.bool true) ∧ Below w.heap.size w w') := by rw [hr] at hv; exact hv
    have HE : Hid (Env w aL aT aC) := hE
    have HF : Hid (s.data.toList.contains 10 = amongB 10 l) := feed_eq hr
    have HR : Hid (runesOf s = some l) := hr
    clear hr hv hE
    by_cases ha : amongB 10 l = true
    · have he : errV (askErr s) aL aT aC = .iface 354 (.pointer (some aT)) := by rw [ask_feed h6 HR.out ha]; rfl
      rw [he]
      rw [ha] at HF
      clear he ha
      go_enter Tryz.func54, Tryz.ntmps54
      go_wp2_with fail
      refine HV.out.mono ?_
      rintro e w1 ⟨rfl, hb⟩
      have hc := (HE.out.below hb).text
      go_wp2_with fail
      refine (contains_call s w1).mono ?_
      rintro e w2 ⟨rfl, rfl⟩
      rw [HF.out]
      go_wp2
      go_ret
      exact ⟨rfl, hb⟩
    · have HA : Hid (¬ amongB 10 l = true) := ha
      have ha : amongB 10 l = false := by simpa using ha
      rw [ha] at HF
      have HK : Hid (Lib.runeCount s = l.length) := runeCount_eq HR.out
      by_cases h3 : 300 < l.length
      · have he : errV (askErr s) aL aT aC = .iface 354 (.pointer (some aL)) := by rw [ask_many h6 HR.out HA.out h3]; rfl
        rw [he]
        have h3' : (300 : Int) < (l.length : Int) := by omega
        clear he ha
        go_enter Tryz.func54, Tryz.ntmps54
        go_wp2_with fail
        refine HV.out.mono ?_
        rintro e w1 ⟨rfl, hb⟩
        go_wp2_with fail
        refine (contains_call s w1).mono ?_
        rintro e w2 ⟨rfl, rfl⟩
        rw [HF.out]
        go_wp2_with fail
        refine (count_call s _ (by omega)).mono ?_
        rintro e w3 ⟨rfl, hb2⟩
        rw [HK.out]
        have hb3 : Below w.heap.size w w3 := hb.trans (hb2.mono hb.size)
        have hc := (HE.out.below hb3).long
        go_wp2
        go_ret
        exact ⟨rfl, hb3⟩
      · have he : errV (askErr s) aL aT aC = .nilIface := by rw [ask_ok h6 HR.out HA.out h3]; rfl
        rw [he]
        have h3' : ¬ (300 : Int) < (l.length : Int) := by omega
        clear he ha
        go_enter Tryz.func54, Tryz.ntmps54
        go_wp2_with fail
        refine HV.out.mono ?_
        rintro e w1 ⟨rfl, hb⟩
        go_wp2_with fail
        refine (contains_call s w1).mono ?_
        rintro e w2 ⟨rfl, rfl⟩
        rw [HF.out]
        go_wp2_with fail
        refine (count_call s _ (by omega)).mono ?_
        rintro e w3 ⟨rfl, hb2⟩
        rw [HK.out]
        have hb3 : Below w.heap.size w w3 := hb.trans (hb2.mono hb.size)
        go_wp2
        go_ret
        exact ⟨rfl, hb3⟩
end Go.Proofs.YtkbinfhclaafhaaGreatDoor
