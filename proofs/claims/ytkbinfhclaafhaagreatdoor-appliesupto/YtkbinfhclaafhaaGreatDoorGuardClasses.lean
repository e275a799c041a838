import Derived.Test.YtkbinfhclaafhaaGreatDoorFaultAny
import Derived.Lib.OthersKept
namespace Go.Proofs.YtkbinfhclaafhaaGreatDoor
open Go.RowKit

theorem guardClasses_err (s : ByteArray) (w : World) (aL aT aC : Addr) (hs : s.size ≤ 9223372036854775807) (hE : Env w aL aT aC) (he : askErr s = 1 ∨ askErr s = 2) :
    Calls Tryz.prog 44 #[.string s] w fun e w' => e = .returned (.tuple #[.slice none 0 0, errV (askErr s) aL aT aC]) ∧ Below w.heap.size w w' := by
  have HC : Hid (Calls Tryz.prog 54 #[.string s] w fun e w' => e = .returned (errV (askErr s) aL aT aC) ∧ Below w.heap.size w w') := check_any s w aL aT aC hs hE
  obtain ⟨a, ha⟩ : ∃ a, errV (askErr s) aL aT aC = .iface 354 (.pointer (some a)) := by
    rcases he with he | he <;> rw [he]
    · exact ⟨aL, rfl⟩
    · exact ⟨aT, rfl⟩
  rw [ha] at HC ⊢
  clear ha he hE
  go_enter Tryz.func44, Tryz.ntmps44
  go_wp2_with fail
  refine HC.out.mono ?_
  rintro e w1 ⟨rfl, hb⟩
  go_wp2
  go_ret2
  exact ⟨rfl, hb⟩

set_option maxHeartbeats 2000000 in
theorem guardClasses_ok (s : ByteArray) (l : List Int) (w : World) (aL aT aC : Addr) (hs : s.size ≤ 600) (hE : Env w aL aT aC) (he : askErr s = 0) (hr : runesOf s = some l) :
    Calls Tryz.prog 44 #[.string s] w fun e w' => ∃ v, e = .returned (.tuple #[v, .nilIface]) ∧ w'.ownsRow w.heap.size 3 1 v l.length ((l.map cls).map (Value.int .i64)) ∧ Below w.heap.size w w' := by
  obtain ⟨i0, hi, hz0, hz1, hz2⟩ := info_parts Tryz.infoInt
  have HC : Hid (Calls Tryz.prog 54 #[.string s] w fun e w' => e = .returned .nilIface ∧ Below w.heap.size w w') := by
    have := check_any s w aL aT aC (by omega) hE
    rw [he] at this
    exact this
  have HE : Hid (Env w aL aT aC) := hE
  have HR : Hid (runesOf s = some l) := hr
  clear he hE hr
  go_enter Tryz.func44, Tryz.ntmps44
  go_wp2_with fail
  refine HC.out.mono ?_
  rintro e w1 ⟨rfl, hb1⟩
  have hbz1 := hb1.size
  go_wp2_with (at_make; refine wpList_make_own _ rfl _ _ 31 rfl w.heap.size 3 i0 (.int .i64 0) 1 Tryz.underlying31 hi hz0 hz1 .i64 .i64 _ s.size rfl rfl (by omega) (by rw [hz2]; omega) (by unfold maxLen; omega) (by omega) ?_)
  intro w2 hown2 hg2
  have hb2 : Below w.heap.size w w2 := hb1.grown hg2 hbz1 (fun k hk => by cases hk)
  have hbz2 := hb2.size
  have HE2 : Hid (Env w2 aL aT aC) := HE.out.below hb2
  go_wp2
  go_loopw [5] (fun v wr => ∃ (p : Nat) (q : List Int), p ≤ s.size ∧ RunesTo s p q ∧ wr.heap[w2.heap.size]? = some (.stringIter s p) ∧ wr.ownsRow w.heap.size 3 1 v q.length ((q.map cls).map (Value.int .i64)) ∧ Below w.heap.size w wr ∧ w2.heap.size < wr.heap.size) (fun _ wr => s.size - wr.iterPos w2.heap.size)
  case atStart =>
    refine ⟨0, [], Nat.zero_le _, RunesTo.start s, World.iter_heap _ _ _, ?_, hb2.alloc hbz2 _, by simp [World.iter]⟩
    exact hown2.alloc _
  case round =>
    obtain ⟨p, q, hp, hR, hit, hown, hb, hzr⟩ := hrel
    have hbzr := hb.size
    have hql : q.length ≤ p := by obtain ⟨f, _, h, _⟩ := hR; exact h
    have hpos : wr.iterPos w2.heap.size = p := iterPos_of hit
    by_cases hlt : p < s.size
    · have hz : szAt s p ≠ 0 := by
        intro h0
        have := hR.bad hlt h0
        rw [HR.out] at this
        cases this
      have HS : Hid (RunesTo s (p + szAt s p) (q ++ [runeAt s p])) := hR.step hlt hz
      have hle : p + szAt s p ≤ s.size := by
        rcases sz_cases s p hlt hz with ⟨e1, _⟩ | ⟨e1, hn, _⟩ | ⟨e1, hn, _⟩ | ⟨e1, hn, _⟩ <;> omega
      have hzp : 0 < szAt s p := by omega
      have hw := szAt_width s p hz
      have hnx : ∀ ty, (Instr.next (.pointer (some ⟨w2.heap.size, 0, none⟩)) true ty).run Tryz.prog wr = .ok (.tuple #[.bool true, .int .i64 p, .int .i32 (runeAt s p)]) (wr.iterAt w2.heap.size s (p + szAt s p)) := fun ty => by
        rw [Lib.run_next_any_at wr w2.heap.size s p ty hit hlt, hw]; rfl
      have HIT : Hid (wr.heap[w2.heap.size]? = some (.stringIter s p)) := hit
      have HP : Hid (wr.iterPos w2.heap.size = p) := hpos
      have HO : Hid (wr.ownsRow w.heap.size 3 1 _ q.length ((q.map cls).map (Value.int .i64))) := hown
      clear hR hz hw hit hown hpos
      generalize szAt s p = n at *
      generalize runeAt s p = r at *
      obtain ⟨wi, hwi⟩ : ∃ wi, wi = wr.iterAt w2.heap.size s (p + n) := ⟨_, rfl⟩
      have hit1 : wi.heap[w2.heap.size]? = some (.stringIter s (p + n)) := by rw [hwi]; exact Lib.iterAt_heap wr _ s p _ HIT.out
      have hsz1 : wi.heap.size = wr.heap.size := by rw [hwi]; exact Lib.iterAt_size _ _ _ _
      have hb1' : Below w.heap.size w wi := by rw [hwi]; exact Lib.below_iterAt hb hbz2 _ _
      have HO1 : wi.ownsRow w.heap.size 3 1 _ q.length ((q.map cls).map (Value.int .i64)) := ownsRow_blocks HO.out fun k o hk ho => by
        rw [hwi, Lib.iterAt_other]
        · exact ho
        · rintro rfl; exact own_ne_iter HO.out HIT.out hk
      rw [← hwi] at hnx
      clear hwi
      obtain ⟨tt, fr, hsp⟩ := (HE.out.below hb1').spans
      have HSP : Hid (wi.heap[4]? = some (.cells spansV tt fr)) := hsp
      clear hsp
      go_wp2_with fail
      refine (classOf_any r wi tt fr HSP.out).mono ?_
      rintro e w3 ⟨rfl, hb3⟩
      have hit3 : Hid (w3.heap[w2.heap.size]? = some (.stringIter s (p + n))) := heap_keep hb3 hit1
      have hown3 : w3.ownsRow w.heap.size 3 1 _ q.length ((q.map cls).map (Value.int .i64)) := ownsRow_blocks HO1 fun k o _ ho => heap_keep hb3 ho
      have hb4 : Below w.heap.size w w3 := hb1'.trans (hb3.mono hb1'.size)
      have hbz4 := hb4.size
      have hz4 : w2.heap.size < w3.heap.size := by have := hb3.size; omega
      clear hnx hit1 hb1' HO1 hb3 hb
      go_wp2_with (at_builtin; refine wpList_push2 _ rfl _ _ 31 rfl w.heap.size 3 i0 (.int .i64 0) 8 Tryz.underlying31 hi hz0 hz1 hz2 rfl (by decide) _ _ _ rfl hown3 _ _ rfl rfl (by omega) (by omega) ?_)
      intro v' w5 hown5 hg5
      have hit5 : w5.heap[w2.heap.size]? = some (.stringIter s (p + n)) := by
        rw [hg5.block _ hz4 (own_ne_iter hown3 hit3.out).symm]; exact hit3.out
      have HIT5 : Hid (w5.heap[w2.heap.size]? = some (.stringIter s (p + n))) := hit5
      have hb5 : Below w.heap.size w w5 := hb4.grown hg5 hbz4 fun k hk => (hown3.lt k hk).1
      have hz5 : w2.heap.size < w5.heap.size := by have := hg5.size; omega
      clear hown3 hit5 hg5
      go_wp2
      go_roundw
      case rel => exact ⟨p + n, q ++ [r], hle, HS.out, HIT5.out, by simpa using hown5, hb5, hz5⟩
      case measure => rw [HP.out, iterPos_of HIT5.out]; omega
    · have hnx : ∀ ty, (Instr.next (.pointer (some ⟨w2.heap.size, 0, none⟩)) true ty).run Tryz.prog wr = .ok (.tuple #[.bool false]) wr := fun ty => Lib.run_next_end_at wr w2.heap.size s p ty hit hlt
      have hq : q = l := by
        have := hR.stop hlt
        rw [HR.out] at this
        exact (Option.some.inj this).symm
      have HQ : Hid (q = l) := hq
      clear hq hit hR hpos
      go_wp2
      go_ret2
      refine ⟨_, rfl, ?_, hb⟩
      rw [← HQ.out]
      exact hown
end Go.Proofs.YtkbinfhclaafhaaGreatDoor
