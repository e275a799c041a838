import Derived.Test.YtkbinfhclaafhaaGreatDoorApGo1
namespace Go.Proofs.YtkbinfhclaafhaaGreatDoor
open Go.RowKit Go.Shelf

set_option maxRecDepth 100000 in
set_option maxHeartbeats 8000000 in
theorem goApply_row (s : ByteArray) (es : List Ed) (b off m cap : Nat) (w : World) (hl : es.length = m) (hm : m ≤ 1000000000000000) (hc : EdsAt w b off es) (hN : s.size + sumN es ≤ 140737488355328) (hA : ∀ e ∈ es, e.a ≤ 9223372036854775807) :
    Calls Tryz.prog 24 #[.string s, .slice (some ⟨b, off, none⟩) m cap] w fun e w' => e = .returned (.string ((es.foldl (apStep s) (⟨#[]⟩, 0)).1 ++ s.extract (es.foldl (apStep s) (⟨#[]⟩, 0)).2 s.size)) ∧ Below w.heap.size w w' := by
  have HC : Hid (EdsAt w b off es) := hc
  have HL : Hid (es.length = m) := hl
  have HA : Hid (∀ e ∈ es, e.a ≤ 9223372036854775807) := hA
  have HNew : Hid (BAt (w.alloc (.cells #[.pointer none, .slice none 0 0] 64)) w.heap.size w.heap.size []) := bat_new w
  have HB1 : Hid (Below w.heap.size w (w.alloc (.cells #[.pointer none, .slice none 0 0] 64))) := (Below.refl _ _).alloc (Nat.le_refl _) _
  have hs : s.size ≤ 1000000000000000 := by omega
  clear hc hl hA
  go_enter Tryz.func24, Tryz.ntmps24
  go_wp2
  obtain ⟨z, hz⟩ : ∃ z, z = w.heap.size := ⟨_, rfl⟩
  go_loopg [6, 11] m (fun gk pv iv W => ∃ (k p : Nat) (t : ByteArray), k ≤ m ∧ gk = m - k ∧ pv = .int .i64 p ∧ iv = .int .i64 k ∧ p ≤ s.size ∧ t.size ≤ p + sumN (es.take k) ∧ Below w.heap.size w W ∧ BAt W w.heap.size w.heap.size t.data.toList ∧ w.heap.size < W.heap.size ∧ (es.take k).foldl (apStep s) (⟨#[]⟩, 0) = (t, p))
  case atStart => exact ⟨0, 0, ⟨#[]⟩, by omega, rfl, rfl, rfl, by omega, Nat.zero_le _, HB1.out, HNew.out, by simp, rfl⟩
  case round =>
    obtain ⟨k, p, t, hk, rfl, rfl, rfl, hp, ht, hB, hT, hzw, hE⟩ := hrel
    have hsk := sumN_take es k
    by_cases hlt : k < m
    · have hke : k < es.length := by rw [HL.out]; exact hlt
      obtain ⟨c0, c1, c2⟩ := (HC.out.below hB) k hke
      have hE2 : (es.take (k + 1)).foldl (apStep s) (⟨#[]⟩, 0) = apStep s (t, p) es[k] := by
        rw [List.take_add_one, List.getElem?_eq_getElem hke, List.foldl_append, hE]; rfl
      have hkm : (k : Int) < (m : Int) := by omega
      have hs2 : sumN (es.take (k + 1)) = sumN (es.take k) + es[k].n.size := by rw [List.take_add_one, List.getElem?_eq_getElem hke, sumN_app]; simp [sumN]
      have hs3 := sumN_take es (k + 1)
      have hea := HA.out es[k] (List.getElem_mem hke)
      generalize es[k] = e at *
      have HE2 : Hid (List.foldl (apStep s) (⟨#[]⟩, 0) (es.take (k + 1)) = apStep s (t, p) e) := hE2
      have HLie : Hid (∀ W, Calls Tryz.prog 40 #[.agg #[.int .i64 e.a, .int .i64 e.c, .string e.n], .int .i64 p, .int .i64 s.size] W fun ev w' => ev = .returned (.bool (okE s p e)) ∧ Below W.heap.size W w') := fun W => lies_any s p e W hs hea
      have HB : Hid (Below w.heap.size w wr) := hB
      have HT : Hid (BAt wr w.heap.size w.heap.size t.data.toList) := hT
      have HK3 : Hid ((wr.alloc (.cells #[.int .i64 e.a, .int .i64 e.c, .string e.n] 66)).heap[wr.heap.size]? = some (.cells #[.int .i64 e.a, .int .i64 e.c, .string e.n] 66 (0, 0))) := by show (wr.heap.push _)[wr.heap.size]? = _; simp
      obtain ⟨k0, k1, k2⟩ := ed_cells HK3.out
      clear hE2 hea hE hB hT
      have HB3 : Hid (Below w.heap.size w (wr.alloc (.cells #[.int .i64 e.a, .int .i64 e.c, .string e.n] 66))) := HB.out.alloc HB.out.size _
      have HT3 : Hid (BAt (wr.alloc (.cells #[.int .i64 e.a, .int .i64 e.c, .string e.n] 66)) w.heap.size w.heap.size t.data.toList) := HT.out.below ((Below.refl _ _).alloc (Nat.le_refl _) _)
      have hsz3 : (wr.alloc (.cells #[.int .i64 e.a, .int .i64 e.c, .string e.n] 66)).heap.size = wr.heap.size + 1 := by simp
      have HSZ : Hid ((wr.alloc (.cells #[.int .i64 e.a, .int .i64 e.c, .string e.n] 66)).heap.size = wr.heap.size + 1) := hsz3
      clear hsz3
      by_cases hok : okE s p e = true
      · have HAp : Hid (apStep s (t, p) e = (t ++ s.extract p e.a.toNat ++ e.n, (e.a + e.c).toNat)) := by show apStep s (t, p) e = _; unfold apStep; rw [if_pos hok]
        have hok' := hok
        unfold okE at hok'
        simp only [Bool.and_eq_true, decide_eq_true_eq] at hok'
        obtain ⟨g1, g2, g3, g4⟩ := hok'
        obtain ⟨ea, ec, en⟩ := e
        simp only at *
        obtain ⟨na, rfl⟩ : ∃ na : Nat, ea = na := ⟨ea.toNat, by omega⟩
        obtain ⟨nc, rfl⟩ : ∃ nc : Nat, ec = nc := ⟨ec.toNat, by omega⟩
        have e1 : ((na : Int)).toNat = na := by omega
        have e2 : ((na : Int) + (nc : Int)).toNat = na + nc := by omega
        rw [e1, e2] at HAp
        have hx : (s.extract p na).size = na - p := by rw [ByteArray.size_extract]; omega
        have HX : Hid ((s.extract p na).size = na - p) := hx
        clear hx
        go_wp2_with fail
        refine (HLie.out _).mono ?_
        rintro ev w4 ⟨rfl, hb4⟩
        rw [hok]
        have HT4 : Hid (BAt w4 w.heap.size w.heap.size t.data.toList) := HT3.out.below hb4
        have HK4 : Hid (w4.heap[wr.heap.size]? = some (.cells #[.int .i64 (na : Int), .int .i64 (nc : Int), .string en] 66 (0, 0))) := (hb4.block _ (by rw [HSZ.out]; omega)).trans HK3.out
        have HB4 : Hid (Below w.heap.size w w4) := HB3.out.trans (hb4.mono (by rw [HSZ.out]; omega))
        obtain ⟨k0, k1, k2⟩ := ed_cells HK4.out
        have hz4 := hb4.size
        rw [HSZ.out] at hz4
        clear hb4
        go_wp2_with fail
        refine (write_any w.heap.size w.heap.size t.data.toList (s.extract p na) w4 HT4.out ?_ ?_).mono ?_
        · show t.size + _ ≤ _
          rw [HX.out]; omega
        · omega
        rintro ev w5 ⟨rfl, hT5, hB5, hO5⟩
        have HT5 : Hid _ := hT5
        have HB5 : Hid _ := HB4.out.trans hB5
        have HK5 : Hid (w5.heap[wr.heap.size]? = some (.cells #[.int .i64 (na : Int), .int .i64 (nc : Int), .string en] 66 (0, 0))) := ed_kept HK4.out (by omega) hO5
        obtain ⟨k0, k1, k2⟩ := ed_cells HK5.out
        have hz5 : w.heap.size ≤ w5.heap.size := HB5.out.size
        clear hT5 hB5 hO5
        go_wp2_with fail
        refine (write_any w.heap.size w.heap.size _ en w5 HT5.out ?_ hz5).mono ?_
        · rw [List.length_append]
          show t.size + (s.extract p na).size + _ ≤ _
          rw [HX.out]; omega
        rintro ev w6 ⟨rfl, hT6, hB6, hO6⟩
        have HT6 : Hid _ := hT6
        have HB6 : Hid _ := HB5.out.trans hB6
        have HK6 : Hid (w6.heap[wr.heap.size]? = some (.cells #[.int .i64 (na : Int), .int .i64 (nc : Int), .string en] 66 (0, 0))) := ed_kept HK5.out (by omega) hO6
        obtain ⟨k0, k1, k2⟩ := ed_cells HK6.out
        have hlt6 : wr.heap.size < w6.heap.size := by
          rcases Nat.lt_or_ge wr.heap.size w6.heap.size with h' | h'
          · exact h'
          · have := HK6.out; simp [Array.getElem?_eq_none h'] at this
        clear hT6 hB6 hO6
        go_wp2
        go_roundg (m - (k + 1))
        case measure => omega
        case rel =>
          refine ⟨k + 1, na + nc, t ++ s.extract p na ++ en, by omega, rfl, by go_num, by go_num, by omega, ?_, HB6.out, ?_, by omega, HE2.out.trans HAp.out⟩
          · rw [ByteArray.size_append, ByteArray.size_append, HX.out]; omega
          · rw [app_data, app_data]; exact HT6.out
      · have HAp : Hid (apStep s (t, p) e = (t, p)) := by show apStep s (t, p) e = _; unfold apStep; rw [if_neg hok]
        have hok' : okE s p e = false := by simpa using hok
        go_wp2_with fail
        refine (HLie.out _).mono ?_
        rintro ev w4 ⟨rfl, hb4⟩
        rw [hok']
        have HT4 : Hid (BAt w4 w.heap.size w.heap.size t.data.toList) := HT3.out.below hb4
        have HB4 : Hid (Below w.heap.size w w4) := HB3.out.trans (hb4.mono (by rw [HSZ.out]; omega))
        have hz4 := hb4.size
        rw [HSZ.out] at hz4
        clear hb4
        go_wp2
        go_roundg (m - (k + 1))
        case measure => omega
        case rel => exact ⟨k + 1, p, t, by omega, rfl, rfl, by go_num, hp, by omega, HB4.out, HT4.out, by omega, HE2.out.trans HAp.out⟩
    · have e : es.take k = es := List.take_of_length_le (by rw [HL.out]; omega)
      rw [e] at hE ht
      have HE : Hid (es.foldl (apStep s) (⟨#[]⟩, 0) = (t, p)) := hE
      have HB : Hid (Below w.heap.size w wr) := hB
      have HT : Hid (BAt wr w.heap.size w.heap.size t.data.toList) := hT
      have hkm : ¬ (k : Int) < (m : Int) := by omega
      have hpz : (p : Int) ≤ (s.size : Int) := by omega
      have hx : (s.extract p s.size).size = s.size - p := by rw [ByteArray.size_extract]; omega
      have htl : t.data.toList.length = t.size := rfl
      clear hE hB e hT
      have HX : Hid ((s.extract p s.size).size = s.size - p) := hx
      clear hx
      go_wp2_with fail
      refine (write_any w.heap.size w.heap.size t.data.toList (s.extract p s.size) wr HT.out ?_ HB.out.size).mono ?_
      · rw [HX.out, htl]; omega
      rintro ev w5 ⟨rfl, hT5, hB5, _⟩
      have HT5 : Hid _ := hT5
      have HB5 : Hid _ := HB.out.trans hB5
      clear hT5 hB5
      go_wp2_with fail
      refine (string_any w.heap.size w.heap.size _ w5 HT5.out HB5.out.size).mono ?_
      rintro ev w6 ⟨rfl, hB6⟩
      have HB6 : Hid _ := HB5.out.trans hB6
      clear hB6
      have hr : (⟨(t.data.toList ++ (s.extract p s.size).data.toList).toArray⟩ : ByteArray) = t ++ s.extract p s.size := by rw [← app_data]
      obtain ⟨r, hr2⟩ : ∃ r, r = t ++ s.extract p s.size := ⟨_, rfl⟩
      have HR : Hid (r = t ++ s.extract p s.size) := hr2
      rw [hr, ← hr2]
      clear hr hr2
      go_wp2
      go_ret
      refine ⟨?_, HB6.out⟩
      rw [HE.out, ← HR.out]
      rfl
end Go.Proofs.YtkbinfhclaafhaaGreatDoor
