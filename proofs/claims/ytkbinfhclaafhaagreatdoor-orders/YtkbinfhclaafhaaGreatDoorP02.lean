import Derived.Test.YtkbinfhclaafhaaGreatDoorP01
import Derived.Test.YtkbinfhclaafhaaGreatDoorM19
import Derived.Test.YtkbinfhclaafhaaGreatDoorM25
namespace Go.Proofs.YtkbinfhclaafhaaGreatDoor
open Go.RowKit
theorem OS.set {W w : World} {bx bo g n b off cap : Nat} {lv cur : List Int} (h : OS W w bx bo g n b off cap lv cur) (hbw : b < w.heap.size) (k : Nat) (a : Int) : OS (W.setCell ⟨g, k, none⟩ (.int .i64 a)) w bx bo g n b off cap lv (cur.set k a) := h.turn (h.row.set k a) (h.row.grown k a) hbw
theorem idz_set (n k : Nat) (hk : k < n) : (idL k ++ List.replicate (n - k) 0).set k (k : Int) = idL (k + 1) ++ List.replicate (n - (k + 1)) 0 := by
 rw [idL_succ, List.set_append_right _ _ (by rw [idL_length]; exact Nat.le_refl _), idL_length, Nat.sub_self, show n - k = (n - (k + 1)) + 1 by omega, List.replicate_succ]
 simp
def JO (w : World) (bx bo g n b off cap tb : Nat) (lv : List Int) (v : Int) (bs : List Bool) (A : List Int) (a : Nat) (cur : List Int) (W : World) : Prop :=
 OS W w bx bo g n b off cap lv cur ∧ W.heap[tb]? = some (.cells #[.int .i64 v] 3 (0, 0)) ∧ TurnTo bs A (min a n) cur
theorem order_law (w : World) (bx bo g n b off cap tb : Nat) (lv : List Int) (v : Int) (A : List Int) (hn : n ≤ 1000) (hbw : b < w.heap.size) (hl : lv.length = n) (hA : A.length = n) (htb : tb ≠ g) :
  RowLaw n 98 99 #[.pointer (some ⟨bx, 0, none⟩), .pointer (some ⟨tb, 0, none⟩)] #[.pointer (some ⟨bo, 0, none⟩)] (JO w bx bo g n b off cap tb lv v (mask v lv) A) (fun _ i => decide (v ≤ lv.getD i 0)) where
 asks x a W i hJ _ hi := by
  obtain ⟨hO, hT, hU⟩ := hJ
  refine (order1_any W w bx bo g n b off cap tb lv x v hO hl (heap_cell hT 0) i hi).mono ?_
  rintro e W' ⟨rfl, hb⟩
  exact ⟨rfl, hO.below hb, heap_keep hb hT, hU⟩
 skip x a W hJ ha hb := by
  obtain ⟨hO, hT, hU⟩ := hJ
  rw [Nat.min_eq_left (by omega)] at hU
  refine ⟨x, hO, hT, ?_⟩
  rw [Nat.min_eq_left (by omega)]
  exact hU.skip (by rw [mask_length, hl, hA]) (by omega) (by rw [mask_get _ _ _ (by omega), hb])
 tell x a c W hJ hac hcn hall hend := by
  obtain ⟨hO, hT, hU⟩ := hJ
  rw [Nat.min_eq_left (by omega)] at hU
  refine (order2_any W w bx bo g n b off cap lv x hO hn hbw a c hac hcn).mono ?_
  rintro e W' ⟨rfl, hO', hg'⟩
  refine ⟨rfl, _, hO', (hg'.block tb (heap_lt hT) (fun e => htb (Option.some.inj e))).trans hT, ?_⟩
  have h1 := hU.turn (j := c) (by rw [mask_length, hl, hA]) (by omega) (by omega) (fun q h1 h2 => by rw [mask_get _ _ _ (by omega), hall q h1 h2]) (fun h => by rw [mask_get _ _ _ (by omega), hend (by omega)])
  by_cases hc : c < n
  ·rw [Nat.min_eq_left (by omega)]
   exact h1.skip (by rw [mask_length, hl, hA]) (by omega) (by rw [mask_get _ _ _ (by omega), hend hc])
  ·rw [Nat.min_eq_right (by omega)]
   have : c = n := by omega
   rw [← this]; exact h1
set_option maxRecDepth 100000 in
set_option maxHeartbeats 16000000 in
theorem bOrder_row (lv : List Int) (b off cap n : Nat) (w : World) (hl : lv.length = n) (hn : n ≤ 1000) (hbw : b < w.heap.size) (hc : IntsAt w b off lv) (hlv : ∀ l ∈ lv, 0 ≤ l ∧ l ≤ 126) :
  Calls Tryz.prog 59 #[.slice (some ⟨b, off, none⟩) n cap] w fun e w' => ∃ g, e = .returned (.slice (some ⟨g, 0, none⟩) n n) ∧ RowAt w' w.heap.size 3 g n (iv (ordP lv)) ∧ Below w.heap.size w w' := by
 obtain ⟨R, hR⟩ : ∃ R, R = ordP lv := ⟨_, rfl⟩
 have HR0 : Hid (R = ordP lv) := hR
 rw [← hR]
 clear hR
 have hmk := run_make_row' (P := Tryz.prog) 31 3 (.int .i64 0) 8 Tryz.underlying31 Tryz.infoI8 rfl .i64 .i64 n (by omega) (by omega)
 have hmf : ∀ (fn : Fn) (first cap : Array Value) (w : World), (Instr.makeFunc fn first cap).run Tryz.prog w = .ok (.func fn first cap) w := fun _ _ _ _ => rfl
 have hw0 : Below w.heap.size w (((w.alloc (.cells #[.slice (some ⟨b, off, none⟩) n cap] 31)).alloc (.cells (madeCells #[.int .i64 0] n) 3)).alloc (.cells #[.slice (some ⟨w.heap.size + 1, 0, none⟩) n n] 31)) := (((Below.refl _ _).alloc (Nat.le_refl _) _).alloc (by simp) _).alloc (by simp; omega) _
 have HO0 : Hid (OS (((w.alloc (.cells #[.slice (some ⟨b, off, none⟩) n cap] 31)).alloc (.cells (madeCells #[.int .i64 0] n) 3)).alloc (.cells #[.slice (some ⟨w.heap.size + 1, 0, none⟩) n n] 31)) w w.heap.size (w.heap.size + 1 + 1) (w.heap.size + 1) n b off cap lv (idL 0 ++ List.replicate (n - 0) 0)) := by
  have z1 : (w.alloc (.cells #[.slice (some ⟨b, off, none⟩) n cap] 31)).heap.size = w.heap.size + 1 := by simp
  have z2 : ((w.alloc (.cells #[.slice (some ⟨b, off, none⟩) n cap] 31)).alloc (.cells (madeCells #[.int .i64 0] n) 3)).heap.size = w.heap.size + 1 + 1 := by simp
  refine ⟨?_, ?_, ?_, hc.below hw0, hw0⟩
  ·have := RowAt.made (w := w.alloc (.cells #[.slice (some ⟨b, off, none⟩) n cap] 31)) (B := w.heap.size) (n := n) (e := 3) (z := .int .i64 0) (by simp) (by omega)
   rw [z1] at this
   have e : iv (idL 0 ++ List.replicate (n - 0) 0) = List.replicate n (.int .i64 0) := by simp [iv, idL]
   show World.ownsRow _ _ _ _ _ _ _
   rw [e]
   exact World.ownsRow.alloc this _
  ·refine heap_keep ((Below.refl _ _).alloc (Nat.le_refl _) _) (heap_keep ((Below.refl _ _).alloc (Nat.le_refl _) _) ?_)
   exact Array.getElem?_push_size
  ·rw [← z2]; exact Array.getElem?_push_size
 have HL : Hid (lv.length = n) := hl
 have HV : Hid (∀ l ∈ lv, 0 ≤ l ∧ l ≤ 126) := hlv
 have HSd : Hid (∀ (l : Int) (W : World), 0 ≤ l → Calls Tryz.prog 96 #[.int .i64 l] W fun e w' => e = .returned (.int .i64 (l % 2)) ∧ w' = W) := fun l W h => sideOf_any l W h
 clear hl hlv hw0 hc
 obtain ⟨bx, hbx⟩ : ∃ bx, bx = w.heap.size := ⟨_, rfl⟩
 obtain ⟨g, hg⟩ : ∃ g, g = w.heap.size + 1 := ⟨_, rfl⟩
 obtain ⟨bo, hbo⟩ : ∃ bo, bo = w.heap.size + 1 + 1 := ⟨_, rfl⟩
 go_enter Tryz.func59, Tryz.ntmps59
 go_wp2
 generalize hW0 : (((w.alloc (.cells #[.slice (some ⟨b, off, none⟩) n cap] 31)).alloc (.cells (madeCells #[.int .i64 0] n) 3)).alloc (.cells #[.slice (some ⟨w.heap.size + 1, 0, none⟩) n n] 31)) = W0 at *
 have HO1 : Hid (OS W0 w bx bo g n b off cap lv (idL 0 ++ List.replicate (n - 0) 0)) := by rw [hbx, hbo, hg]; exact HO0.out
 rw [← hbo, ← hg, ← hbx]
 have HGx : Hid (w.heap.size ≤ g) := by show _ ≤ _; omega
 clear hW0 HO0 hbx hg hbo hmk
 go_loopg [4, 5, 14] n (fun gk hv ov iv' W => ∃ (k : Nat) (hi lo : Int), k ≤ n ∧ gk = n - k ∧ iv' = .int .i64 k ∧ hv = .int .i64 hi ∧ ov = .int .i64 lo ∧ hi = topL (lv.take k) ∧ lo = lowL (lv.take k) ∧ OS W w bx bo g n b off cap lv (idL k ++ List.replicate (n - k) 0))
 case atStart => exact ⟨0, 0, 127, by omega, rfl, rfl, rfl, rfl, by simp [topL], by simp [lowL], HO1.out⟩
 case round =>
  clear HO1
  obtain ⟨k, hi, lo, hk, rfl, rfl, rfl, rfl, hhi, hlo, hO⟩ := hrel
  by_cases hlt : k < n
  ·have hkl : k < lv.length := by rw [HL.out]; exact hlt
   have cx := hO.cx
   have co := hO.co
   have cl := hO.lv k hkl
   have cg := hO.row.cell k hlt
   have fg := hO.row.frozen k
   have ht := topL_succ lv k hkl
   have hw := lowL_succ lv k hkl
   have hxb := HV.out _ (getD_mem (d := 0) hkl)
   rw [← hhi] at ht
   rw [← hlo] at hw
   have hib := topL_bd (lv := lv.take k) (fun l h => by have := (HV.out l (List.mem_of_mem_take h)).2; omega)
   have lob := lowL_bd (lv := lv.take k) (fun l h => (HV.out l (List.mem_of_mem_take h)).1)
   rw [← hhi] at hib
   rw [← hlo] at lob
   obtain ⟨x, hx⟩ : ∃ x, x = lv.getD k 0 := ⟨_, rfl⟩
   rw [← hx] at cl ht hw hxb
   have HO2 : Hid (OS (wr.setCell ⟨g, k, none⟩ (.int .i64 (k : Int))) w bx bo g n b off cap lv (idL (k + 1) ++ List.replicate (n - (k + 1)) 0)) := by
    have := hO.set hbw k (k : Int)
    rw [idz_set n k hlt] at this
    exact this
   have HT : Hid (topL (lv.take (k + 1)) = max hi x) := ht
   have HW : Hid (lowL (lv.take (k + 1)) = if x % 2 = 1 then min lo x else lo) := hw
   have hkn : (k : Int) < (n : Int) := by omega
   obtain ⟨x0, x1⟩ := hxb
   have HSx : Hid (∀ W, Calls Tryz.prog 96 #[.int .i64 x] W fun e w' => e = .returned (.int .i64 (x % 2)) ∧ w' = W) := fun W => HSd.out x W x0
   have h2 : x % 2 = 0 ∨ x % 2 = 1 := by omega
   have HX2 : Hid (x % 2 = 0 ∨ x % 2 = 1) := h2
   obtain ⟨par, hpar⟩ : ∃ par, par = x % 2 := ⟨_, rfl⟩
   rw [← hpar] at HSx HW HX2
   generalize (idL k ++ List.replicate (n - k) 0).getD k 0 = old at *
   clear hO ht hw hx hhi hlo hkl h2 hpar
   have HM : Hid (max hi x = topL (lv.take (k + 1))) := HT.out.symm
   rcases HX2.out with hp0 | hp1
   ·have HN : Hid (lo = lowL (lv.take (k + 1))) := by show lo = _; rw [HW.out, if_neg (by omega)]
    subst hp0
    go_wp2_with fail
    refine (HSx.out _).mono ?_
    rintro ev wx ⟨rfl, hwx⟩
    have hwx' := hwx.symm
    subst hwx'
    go_wp2
    go_roundg (n - (k + 1))
    case measure => omega
    case rel => exact ⟨k + 1, max hi x, lo, by omega, rfl, by go_num, rfl, rfl, HM.out, HN.out, HO2.out⟩
   ·have HN : Hid (min lo x = lowL (lv.take (k + 1))) := by show min lo x = _; rw [HW.out, if_pos hp1]
    subst hp1
    go_wp2_with fail
    refine (HSx.out _).mono ?_
    rintro ev wx ⟨rfl, hwx⟩
    have hwx' := hwx.symm
    subst hwx'
    go_wp2
    go_roundg (n - (k + 1))
    case measure => omega
    case rel => exact ⟨k + 1, max hi x, min lo x, by omega, rfl, by go_num, rfl, rfl, HM.out, HN.out, HO2.out⟩
  ·obtain rfl : k = n := by omega
   have hkn : ¬ (k : Int) < (k : Int) := by omega
   have e1 : lv.take k = lv := List.take_of_length_le (by rw [HL.out]; exact Nat.le_refl _)
   rw [e1] at hhi hlo
   have htb := topL_bd (lv := lv) (fun l h => by have := (HV.out l h).2; omega)
   have hlb := lowL_bd (lv := lv) (fun l h => (HV.out l h).1)
   rw [← hhi] at htb
   rw [← hlo] at hlb
   have HO2 : Hid (OS wr w bx bo g k b off cap lv (turnsF lv 0 hi (idL k))) := by
    have := hO
    rw [Nat.sub_self, List.replicate_zero, List.append_nil] at this
    exact this
   have HR : Hid (R = turnsF lv (hi - lo + 1).toNat hi (idL k)) := by show _ = _; rw [HR0.out, ordP, hhi, hlo, HL.out]
   clear hO hhi hlo e1
   obtain ⟨tb0, htb0⟩ : ∃ tb0, tb0 = wr.heap.size := ⟨_, rfl⟩
   have HO3 : Hid (OS (wr.alloc (.cells #[.int .i64 hi] 3)) w bx bo g k b off cap lv (turnsF lv 0 hi (idL k)) ∧ (wr.alloc (.cells #[.int .i64 hi] 3)).heap[tb0]? = some (.cells #[.int .i64 (hi - (0 : Nat))] 3 (0, 0)) ∧ tb0 ≠ g) := by
    refine ⟨HO2.out.below ((Below.refl _ _).alloc (Nat.le_refl _) _), by rw [htb0, show hi - ((0 : Nat) : Int) = hi by omega]; exact Array.getElem?_push_size, ?_⟩
    have := (HO2.out.row.lt g rfl).2
    omega
   go_wp2
   generalize wr.alloc (.cells #[.int .i64 hi] 3) = W1 at *
   rw [← htb0]
   clear htb0 HO2
   go_loopg [8] (hi - lo + 1).toNat (fun gk tv W => ∃ (m tb : Nat), m ≤ (hi - lo + 1).toNat ∧ gk = (hi - lo + 1).toNat - m ∧ tv = .pointer (some ⟨tb, 0, none⟩) ∧ OS W w bx bo g k b off cap lv (turnsF lv m hi (idL k)) ∧ W.heap[tb]? = some (.cells #[.int .i64 (hi - m)] 3 (0, 0)) ∧ tb ≠ g)
   case atStart => exact ⟨0, tb0, by omega, rfl, rfl, HO3.out.1, HO3.out.2.1, HO3.out.2.2⟩
   case round =>
    clear HO3
    obtain ⟨m, tb, hm, rfl, rfl, hO, hT, htg⟩ := hrel
    have ct := heap_cell hT 0
    by_cases hlt : m < (hi - lo + 1).toNat
    ·have hvl : lo ≤ hi - (m : Int) := by omega
     have hal : (turnsF lv m hi (idL k)).length = k := (turnsF_length lv m hi _ (by rw [idL_length, HL.out])).trans HL.out
     have HEach : Hid (Calls Tryz.prog 97 #[.int .i64 k, .func (.func 98) #[] #[.pointer (some ⟨bx, 0, none⟩), .pointer (some ⟨tb, 0, none⟩)], .func (.func 99) #[] #[.pointer (some ⟨bo, 0, none⟩)]] wr fun e w' => e = .returned (.tuple #[]) ∧ ∃ q cur, k ≤ q ∧ JO w bx bo g k b off cap tb lv (hi - m) (mask (hi - m) lv) (turnsF lv m hi (idL k)) q cur w') :=
      eachRow_any k _ _ _ _ _ _ hn (order_law w bx bo g k b off cap tb lv (hi - m) _ hn hbw HL.out hal htg) (callFunc_enter Tryz.func98 (by kernel_rfl) (by kernel_rfl)) (callFunc_enter Tryz.func99 (by kernel_rfl) (by kernel_rfl)) _ wr ⟨hO, hT, by rw [Nat.zero_min]; exact TurnTo.start _ _⟩
     have cx := hO.cx
     have HAl : Hid ((mask (hi - m) lv).length = (turnsF lv m hi (idL k)).length ∧ (turnsF lv m hi (idL k)).length = k) := ⟨by rw [mask_length, HL.out, hal], hal⟩
     have HNx : Hid (turnsF lv (m + 1) hi (idL k) = turnL (mask (hi - m) lv) (turnsF lv m hi (idL k)) []) := turnsF_succ _ _ _ _
     generalize turnsF lv m hi (idL k) = A at *
     obtain ⟨v, hv⟩ : ∃ v, v = hi - (m : Int) := ⟨_, rfl⟩
     have HVe : Hid (v = hi - (m : Int)) := hv
     have hv0 : 0 ≤ v := by omega
     have hv1 : v ≤ 1000 := by omega
     rw [← hv] at ct hvl HEach HAl HNx
     clear hO hT hal hv
     go_wp2_with fail
     refine HEach.out.mono ?_
     rintro ev W2 ⟨rfl, q, cur, hq, hO2, hT2, hU2⟩
     rw [Nat.min_eq_right hq] at hU2
     have hce := hU2.stop HAl.out.1 (by rw [HAl.out.2]; exact Nat.le_refl _)
     rw [hce, ← HNx.out] at hO2
     have ct2 := heap_cell hT2 0
     have HO2 : Hid (OS W2 w bx bo g k b off cap lv (turnsF lv (m + 1) hi (idL k))) := hO2
     have HG2 : Hid (g < W2.heap.size) := (hO2.row.lt g rfl).2
     clear HEach hO2 hT2 hU2 hce cx ct hq
     go_wp2
     go_roundg ((hi - lo + 1).toNat - (m + 1))
     case measure => omega
     case rel => exact ⟨m + 1, W2.heap.size, by omega, rfl, rfl, HO2.out.below ((Below.refl _ _).alloc (Nat.le_refl _) _), by rw [show hi - ((m + 1 : Nat) : Int) = v - 1 by have := HVe.out; omega]; exact Array.getElem?_push_size, by have := HG2.out; omega⟩
    ·have hvl : ¬ lo ≤ hi - (m : Int) := by omega
     obtain rfl : m = (hi - lo + 1).toNat := by omega
     have co := hO.co
     have HF : Hid (RowAt wr w.heap.size 3 g k (iv R) ∧ Below w.heap.size w wr) := ⟨by rw [HR.out]; exact hO.row, hO.hb⟩
     clear hO hT
     generalize hi - (((hi - lo + 1).toNat : Nat) : Int) = v at *
     generalize turnsF lv (hi - lo + 1).toNat hi (idL k) = A at *
     go_wp2
     go_ret
     exact ⟨g, rfl, HF.out.1, HF.out.2⟩
end Go.Proofs.YtkbinfhclaafhaaGreatDoor
namespace Go.Proofs.YtkbinfhclaafhaaGreatDoor
def OkP (para : Int) (st : List Ent) : Prop := ∀ e ∈ st, para ≤ e.l
theorem OkP.app {para : Int} {st : List Ent} {e : Ent} (h : OkP para st) (he : para ≤ e.l) : OkP para (st ++ [e]) := fun y hy => by
 rcases List.mem_append.1 hy with hy | hy
 ·exact h y hy
 ·rw [List.mem_singleton.1 hy]; exact he
theorem OkP.sub {para : Int} {st st' : List Ent} (h : OkP para st) (hs : ∀ e ∈ st', e ∈ st) : OkP para st' := fun e he => h e (hs e he)
theorem OkP.pre {para : Int} {x : XS} (h : OkP para x.st) (c : Int) : OkP para (xPre x c).st := by
 unfold xPre
 split
 ·unfold endX
  split
  ·exact h
  ·split
   ·exact h
   ·exact h.sub (popIso_mem _)
 ·exact h
theorem OkP.post {para : Int} {x : XS} (h : OkP para x.st) (hne : x.st ≠ []) (cs : List Int) (i : Nat) (c : Int) : OkP para (xPost cs i x c).st := by
 have ht : para ≤ (topE x.st).l := h _ (topE_mem hne)
 have hn : ∀ odd, para ≤ nextL (topE x.st).l odd := fun odd => by have := nextL_ge (topE x.st).l odd; omega
 have hb : ∀ odd, OkP para (beginX x odd).st := fun odd => by
  unfold beginX
  simp only
  split
  ·exact h.app (hn _)
  ·exact h
 unfold xPost
 split
 ·unfold embedX
  simp only
  generalize (if c = 15 then (0 : Int) else if c = 16 then 1 else -1) = o at *
  generalize hq : nextL (topE x.st).l _ = n
  have hqn : para ≤ n := by rw [← hq]; exact hn _
  split
  ·exact h.app hqn
  ·split <;> exact h
 ·split
  ·exact hb _
  ·split
   ·exact hb _
   ·split
    ·exact hb _
    ·split
     ·unfold popX
      split
      ·exact h
      ·split
       ·exact h
       ·split
        ·exact h.sub fun e he => List.dropLast_subset _ he
        ·exact h
     ·exact h
theorem xAt_p (cs : List Int) (para : Int) (hp : 0 ≤ para ∧ para ≤ 125) : ∀ i, OkP para (xAt cs para i).st
 | 0 => by intro e he; rw [xAt] at he; rw [List.mem_singleton.1 he]; exact Int.le_refl _
 | i + 1 => by rw [xAt]; exact ((xAt_p cs para hp i).pre _).post ((xAt_ok cs para hp i).pre _).ne cs i _
theorem xTop_p (cs : List Int) (para : Int) (hp : 0 ≤ para ∧ para ≤ 125) (i : Nat) : para ≤ (xTop cs para i).l :=
 ((xAt_p cs para hp i).pre _) _ (topE_mem ((xAt_ok cs para hp i).pre _).ne)
theorem finL_all {P : Int → Prop} {para : Int} (hp : P para) : ∀ (cs os : List Int) (prev : Int), P prev → (∀ o ∈ os, P o) → ∀ x ∈ finL para prev cs os, P x
 | [], _, _, _, _, x, hx => by cases hx
 | _ :: _, [], _, _, _, x, hx => by cases hx
 | c :: cs, o :: os, prev, hv, ho, x, hx => by
  have h1 : P (if resetB c cs = true then para else if leftB c = false then prev else o) := by
   split
   ·exact hp
   ·split
    ·exact hv
    ·exact ho o (by simp)
  rw [finL] at hx
  rcases List.mem_cons.1 hx with rfl | hx
  ·exact h1
  ·exact finL_all hp cs os _ h1 (fun y hy => ho y (by simp [hy])) x hx
theorem implS_bd {c l : Int} (h0 : 0 ≤ l) (h : l ≤ 125) : l ≤ implS c l ∧ implS c l ≤ 126 := by
 unfold implS
 split
 ·split
  ·omega
  ·split <;> omega
 ·split <;> omega
theorem levels_bd {cs : List Int} (hcs : ∀ c ∈ cs, 0 ≤ c ∧ c ≤ 21) (rs : List Int) (d : Int) (hp : 0 ≤ paraL cs d ∧ paraL cs d ≤ 125) : ∀ x ∈ levelsL rs cs d, paraL cs d ≤ x ∧ x ≤ 126 := by
 unfold levelsL
 generalize paraL cs d = para at *
 refine finL_all (P := fun x => para ≤ x ∧ x ≤ 126) (by omega) _ _ _ (by omega) ?_
 refine set_all_ne (P := fun x => para ≤ x ∧ x ≤ 126) _ _ (fun x hx => ?_) fun o ho => ?_
 ·obtain ⟨s, hs, hx⟩ := List.mem_flatMap.1 hx
  obtain ⟨_, _, _, _, a5⟩ := seq_facts hcs hp hs
  obtain ⟨b1, b2, _⟩ := trip_mem hx
  obtain ⟨h1, h2⟩ := a5 _ b1
  have h3 : (xLevels cs para).getD x.1 0 = (xTop cs para x.1).l := by rw [xLevels, range_getD _ _ _ _ h1]
  have h4 := xTop_l cs para hp x.1
  have h5 := xTop_p cs para hp x.1
  have := implS_bd (c := x.2.2) (l := x.2.1) (by omega) (by omega)
  omega
 ·obtain ⟨i, _, rfl⟩ := List.mem_map.1 (show o ∈ (List.range cs.length).map fun i => (xTop cs para i).l from ho)
  have := xTop_l cs para hp i
  have := xTop_p cs para hp i
  omega
theorem ordR_len (lv : List Int) : (ordR lv).length = lv.length := turnsF_length _ _ _ _ (idL_length _)
theorem ordR_nil : ordR [] = [] := rfl
theorem ordR_flat {lv : List Int} (h : ∀ l ∈ lv, l = 0) : ordR lv = idL lv.length := by
 have ht : topL lv = 0 := by
  obtain ⟨_, _, t3⟩ := foldl_max_ge lv 0
  rcases t3 with e | e
  ·exact e
  ·exact h _ e
 rw [ordR, ht]; rfl
theorem turnL_all {α : Type} (xs : List α) : turnL (List.replicate xs.length true) xs [] = xs.reverse := by
 have := turnL_trues [] [] xs []
 simp only [List.append_nil] at this
 rw [this]; rfl
theorem ordR_one {lv : List Int} (h : ∀ l ∈ lv, l = 1) (hne : lv ≠ []) : ordR lv = (idL lv.length).reverse := by
 have ht : topL lv = 1 := by
  obtain ⟨t1, t2, t3⟩ := foldl_max_ge lv 0
  have hm := List.exists_mem_of_ne_nil lv hne
  obtain ⟨x, hx⟩ := hm
  have h1 := t2 x hx
  have h2 := h x hx
  change x ≤ topL lv at h1
  rcases t3 with e | e
  ·change topL lv = 0 at e; omega
  ·exact h _ e
 have hm : mask 1 lv = List.replicate (idL lv.length).length true := by
  rw [idL_length]
  unfold mask
  rw [← List.map_const']
  exact List.map_congr_left fun l hl => by rw [h l hl]; rfl
 rw [ordR, ht]
 show turnL (mask 1 lv) (idL lv.length) [] = _
 rw [hm, turnL_all]
theorem ordR_perm (lv : List Int) : (ordR lv).Perm (idL lv.length) := turnsF_perm _ _ _ _ (idL_length _)
end Go.Proofs.YtkbinfhclaafhaaGreatDoor
namespace Go.Proofs.YtkbinfhclaafhaaGreatDoor
open Go.RowKit
def lineO (s : ByteArray) (d : Int) : List Int := ordR (lineL s d)
theorem lineO_len (s : ByteArray) (d : Int) : (lineO s d).length = (lineL s d).length := ordR_len _
theorem lineL_bd (s : ByteArray) (d : Int) : ∀ x ∈ lineL s d, 0 ≤ x ∧ x ≤ 126 := by
 intro x hx
 unfold lineL at hx
 split at hx
 ·have hp : 0 ≤ paraL ((askRunes s).map cls) d ∧ paraL ((askRunes s).map cls) d ≤ 125 := by rcases paraL_01 ((askRunes s).map cls) d with h | h <;> omega
  have := levels_bd (cs := (askRunes s).map cls) (fun c hc => by obtain ⟨r, _, rfl⟩ := List.mem_map.1 hc; exact cls_bd r) (askRunes s) d hp x hx
  omega
 ·cases hx
set_option maxRecDepth 100000 in
set_option maxHeartbeats 2000000 in
theorem refOrder_nil (w : World) : Calls Tryz.prog 49 #[.slice none 0 0] w fun e w' => e = .returned (.slice none 0 0) ∧ w' = w := by
 go_enter Tryz.func49, Tryz.ntmps49
 go_wp2
 refine wp_loop_rounds 1 ?_
 rw [rounds_succ]
 go_wp2
 refine wp_loop_rounds 1 ?_
 rw [rounds_succ]
 go_wp2
 go_ret
 exact ⟨rfl, rfl⟩
theorem refOrder_any (lv : List Int) (v : Value) (B : Nat) (w : World) (hn : lv.length ≤ 1000) (hv : w.ownsRow B 3 1 v lv.length (iv lv)) (hlv : ∀ l ∈ lv, 0 ≤ l ∧ l ≤ 126) :
  Calls Tryz.prog 49 #[v] w fun e w' => ∃ v', e = .returned v' ∧ w'.ownsRow w.heap.size 3 1 v' (ordR lv).length (iv (ordR lv)) ∧ Below w.heap.size w w' := by
 rcases SlI.of_owns hv with ⟨rfl, rfl⟩ | ⟨b, off, cap, rfl, hi⟩
 ·refine (refOrder_nil w).mono ?_
  rintro e w' ⟨rfl, rfl⟩
  exact ⟨_, rfl, World.ownsRow_nil _ _ _ _, Below.refl _ _⟩
 ·refine (refOrder_row lv b off cap lv.length w rfl hn hi (fun l hl => by have := hlv l hl; omega)).mono ?_
  rintro e w' ⟨v', rfl, ho, hb⟩
  exact ⟨v', rfl, by rw [ordR_len]; exact ho, hb⟩
set_option maxRecDepth 100000 in
set_option maxHeartbeats 4000000 in
theorem refLineO_any (s : ByteArray) (d : Int) (w : World) :
  Calls Tryz.prog 30 #[.string s, .int .i64 d] w fun e w' => Below w.heap.size w w' ∧ ∃ v, e = .returned (.tuple #[v, faultV (askErr s)]) ∧ w'.ownsRow w.heap.size 3 1 v (lineO s d).length (iv (lineO s d)) := by
 have hle := lineQ_len s d
 have HBd : Hid (∀ x ∈ lineL s d, 0 ≤ x ∧ x ≤ 126) := lineL_bd s d
 have HR : Hid (∀ W, Calls Tryz.prog 29 #[.string s, .int .i64 d] W fun e w' => Below W.heap.size W w' ∧ ∃ v, e = .returned (.tuple #[v, faultV (askErr s)]) ∧ w'.ownsRow W.heap.size 3 1 v (lineL s d).length (iv (lineL s d))) := fun W => refLine_any s d W
 obtain ⟨OV, hOV⟩ : ∃ OV, OV = lineO s d := ⟨_, rfl⟩
 rw [← hOV]
 have HOV : Hid (OV = ordR (lineL s d)) := hOV
 clear hOV
 generalize lineL s d = LV at *
 obtain ⟨er, m, hfv⟩ : ∃ er m, faultV (askErr s) = .agg #[.int .i64 er, .int .i64 m, .int .i64 m] := ⟨_, _, rfl⟩
 rw [hfv] at HR ⊢
 clear hfv
 go_enter Tryz.func30, Tryz.ntmps30
 go_wp2_with fail
 refine (HR.out _).mono ?_
 rintro e w1 ⟨hb, v, rfl, hown⟩
 obtain ⟨hc, hf⟩ := bcell hb
 have HB : Hid (Below w.heap.size w w1) := ((Below.refl _ _).alloc (Nat.le_refl _) _).trans (hb.mono (by simp))
 have hz : w.heap.size < w1.heap.size := by have := hb.size; simp at this; omega
 have HC : Hid (∀ W, Below w1.heap.size w1 W → Calls Tryz.prog 49 #[v] W fun e w' => ∃ v', e = .returned v' ∧ w'.ownsRow (w.heap.size + 1) 3 1 v' OV.length (iv OV) ∧ Below W.heap.size W w') := fun W hW =>
  (refOrder_any LV v _ W (by omega) (own_below hown hW) HBd.out).mono fun e w' ⟨v', he, ho, hb'⟩ => by
   rw [← HOV.out] at ho
   exact ⟨v', he, own_lowB ho (by have := hW.size; omega), hb'⟩
 clear hb hown
 go_wp2_with fail
 go_region_with (go_at_call 49; refine (HC.out _ ?_).mono ?_; exact ((Below.refl _ _).alloc (Nat.le_refl _) _).drew; rintro e w2 ⟨v', rfl, hown2, hb3⟩; obtain ⟨hc2, hf2⟩ := bcell hb3)
 all_goals
  have hB3 : Below w.heap.size w (((w2.setCell ⟨w.heap.size, 0, none⟩ (.int .i64 er)).setCell ⟨w.heap.size, 1, none⟩ (.int .i64 m)).setCell ⟨w.heap.size, 2, none⟩ (.int .i64 m)) :=
   (((((HB.out.alloc HB.out.size _).drew).trans (hb3.mono (by simp; omega))).setCell (Nat.le_refl _) _).setCell (Nat.le_refl _) _).setCell (Nat.le_refl _) _
  have hS3 : (((w2.setCell ⟨w.heap.size, 0, none⟩ (.int .i64 er)).setCell ⟨w.heap.size, 1, none⟩ (.int .i64 m)).setCell ⟨w.heap.size, 2, none⟩ (.int .i64 m)).ownsRow w.heap.size 3 1 v' OV.length (iv OV) :=
   own_lower (ownsRow_setCell_below (ownsRow_setCell_below (ownsRow_setCell_below hown2 (by simp) _) (by simp) _) (by simp) _)
  have k0 : w2.cell? ⟨w.heap.size, 0, none⟩ = some (.int .i64 0) := (hc2 _ _ (by simp; omega)).trans ((World.cell?_alloc_lt _ _ ⟨w.heap.size, 0, none⟩ hz).trans ((hc _ _ (by simp)).trans (by simp)))
  have k1 : w2.cell? ⟨w.heap.size, 1, none⟩ = some (.int .i64 0) := (hc2 _ _ (by simp; omega)).trans ((World.cell?_alloc_lt _ _ ⟨w.heap.size, 1, none⟩ hz).trans ((hc _ _ (by simp)).trans (by simp)))
  have k2 : w2.cell? ⟨w.heap.size, 2, none⟩ = some (.int .i64 0) := (hc2 _ _ (by simp; omega)).trans ((World.cell?_alloc_lt _ _ ⟨w.heap.size, 2, none⟩ hz).trans ((hc _ _ (by simp)).trans (by simp)))
  clear hc2 hf2 hc hf
  go_wp2
  exact bodyPost_ret (v := .tuple #[v', .agg #[.int .i64 er, .int .i64 m, .int .i64 m]]) (by simp [results, Tryz.results30, go_sem, k0, k1, k2]) rfl ⟨hB3, v', rfl, hS3⟩
theorem guardOrder_err (s : ByteArray) (d : Int) (w : World) (aL aT aC : Addr) (hs : s.size ≤ 9223372036854775807) (hE : Env w aL aT aC) (he : askErr s = 1 ∨ askErr s = 2) :
  Calls Tryz.prog 37 #[.string s, .int .i64 d] w fun e w' => e = .returned (.tuple #[.slice none 0 0, errV (askErr s) aL aT aC]) ∧ Below w.heap.size w w' := by
 have HC : Hid (Calls Tryz.prog 35 #[.string s, .int .i64 d] w fun e w' => e = .returned (.tuple #[.slice none 0 0, errV (askErr s) aL aT aC]) ∧ Below w.heap.size w w') := guardLevels_err s d w aL aT aC hs hE he
 obtain ⟨a, ha⟩ : ∃ a, errV (askErr s) aL aT aC = .iface 354 (.pointer (some a)) := by
  rcases he with he | he <;> rw [he]
  ·exact ⟨aL, rfl⟩
  ·exact ⟨aT, rfl⟩
 rw [ha] at HC ⊢
 clear ha he hE
 go_enter Tryz.func37, Tryz.ntmps37
 go_wp2_with fail
 refine HC.out.mono ?_
 rintro e w1 ⟨rfl, hb⟩
 go_wp2
 go_ret2
 exact ⟨rfl, hb⟩
set_option maxHeartbeats 2000000 in
theorem guardOrder_ok (s : ByteArray) (d : Int) (w : World) (aL aT aC : Addr) (hs : s.size ≤ 9223372036854775807) (hE : Env w aL aT aC) (hB : Br w) (he : askErr s = 0) :
  Calls Tryz.prog 37 #[.string s, .int .i64 d] w fun e w' => ∃ v, e = .returned (.tuple #[v, .nilIface]) ∧ w'.ownsRow w.heap.size 3 1 v (lineO s d).length (iv (lineO s d)) ∧ Below w.heap.size w w' := by
 have hle := lineQ_len s d
 have hbd := lineL_bd s d
 have HO : Hid (ordP (lineL s d) = lineO s d) := ord_eq hbd
 have HC : Hid (Calls Tryz.prog 35 #[.string s, .int .i64 d] w fun e w' => ∃ g, e = .returned (.tuple #[.slice (some ⟨g, 0, none⟩) (lineL s d).length (lineL s d).length, .nilIface]) ∧ RowAt w' w.heap.size 3 g (lineL s d).length (iv (lineL s d)) ∧ Below w.heap.size w w') := by
  refine (guardLevels_any s d w aL aT aC hs hE hB).mono ?_
  rintro e w' ⟨v, rfl, ho, _, hg, hb⟩
  obtain ⟨g, rfl⟩ := hg he
  exact ⟨g, by rw [he]; rfl, ho, hb⟩
 have HBd : Hid _ := hbd
 obtain ⟨OV, hOV⟩ : ∃ OV, OV = lineO s d := ⟨_, rfl⟩
 have HOl : Hid (OV.length = (lineL s d).length) := by show _ = _; rw [hOV, lineO_len]
 rw [← hOV] at HO ⊢
 clear hOV hbd he hE hB
 generalize lineL s d = LV at *
 go_enter Tryz.func37, Tryz.ntmps37
 go_wp2_with fail
 refine HC.out.mono ?_
 rintro e w1 ⟨g, rfl, hr1, hb1⟩
 have HB1 : Hid (Below w.heap.size w w1) := hb1
 have HOr : Hid (Calls Tryz.prog 59 #[.slice (some ⟨g, 0, none⟩) LV.length LV.length] w1 fun e w' => ∃ g, e = .returned (.slice (some ⟨g, 0, none⟩) LV.length LV.length) ∧ RowAt w' w1.heap.size 3 g LV.length (iv OV) ∧ Below w1.heap.size w1 w') := by
  rw [← HO.out]
  exact bOrder_row LV g 0 LV.length LV.length w1 rfl (by omega) (hr1.lt g rfl).2 (fun k hk => by rw [Nat.zero_add]; exact own_icell hr1 k hk) HBd.out
 clear hb1 hr1 HC
 generalize LV.length = n at *
 go_wp2_with fail
 refine HOr.out.mono ?_
 rintro e w2 ⟨g2, rfl, hr2, hb2⟩
 have H2 : Hid (w2.ownsRow w.heap.size 3 1 (.slice (some ⟨g2, 0, none⟩) n n) OV.length (iv OV) ∧ Below w.heap.size w w2) := ⟨by rw [HOl.out]; exact own_lowB hr2 HB1.out.size, HB1.out.trans (hb2.mono HB1.out.size)⟩
 clear hr2 hb2 HOr HB1
 go_wp2
 go_ret2
 exact ⟨_, rfl, H2.out.1, H2.out.2⟩
theorem guardOrder_any (s : ByteArray) (d : Int) (w : World) (aL aT aC : Addr) (hs : s.size ≤ 9223372036854775807) (hE : Env w aL aT aC) (hB : Br w) :
  Calls Tryz.prog 37 #[.string s, .int .i64 d] w fun e w' => ∃ v, e = .returned (.tuple #[v, errV (askErr s) aL aT aC]) ∧ w'.ownsRow w.heap.size 3 1 v (lineO s d).length (iv (lineO s d)) ∧ (askErr s ≠ 0 → v = .slice none 0 0) ∧ Below w.heap.size w w' := by
 by_cases h0 : askErr s = 0
 ·refine (guardOrder_ok s d w aL aT aC hs hE hB h0).mono ?_
  rintro e w' ⟨v, rfl, ho, hb⟩
  exact ⟨v, by rw [h0]; rfl, ho, fun h => absurd h0 h, hb⟩
 ·refine (guardOrder_err s d w aL aT aC hs hE (by have := askErr_cases s; omega)).mono ?_
  rintro e w' ⟨rfl, hb⟩
  refine ⟨_, rfl, ?_, fun _ => rfl, hb⟩
  have : lineO s d = [] := by rw [lineO, lineL, if_neg h0, ordR_nil]
  rw [this]
  exact World.ownsRow_nil _ _ _ _
set_option maxHeartbeats 2000000 in
theorem plainOrder_any (s : ByteArray) (d : Int) (w : World) (aL aT aC : Addr) (hs : s.size ≤ 9223372036854775807) (hE : Env w aL aT aC) (hBr : Br w) :
  Calls Tryz.prog 20 #[.string s, .int .i64 d] w fun e w' => ∃ v, e = .returned (.tuple #[v, faultV (askErr s)]) ∧ w'.ownsRow w.heap.size 3 1 v (lineO s d).length (iv (lineO s d)) ∧ (askErr s ≠ 0 → v = .slice none 0 0) ∧ Below w.heap.size w w' := by
 have HE : Hid (Env w aL aT aC) := hE
 have HBr : Hid (Br w) := hBr
 have hcs := askErr_cases s
 have HG : Hid (∀ W, Below w.heap.size w W → Calls Tryz.prog 37 #[.string s, .int .i64 d] W fun e w' => ∃ v, e = .returned (.tuple #[v, errV (askErr s) aL aT aC]) ∧ w'.ownsRow W.heap.size 3 1 v (lineO s d).length (iv (lineO s d)) ∧ (askErr s ≠ 0 → v = .slice none 0 0) ∧ Below W.heap.size W w') := fun W hW => guardOrder_any s d W aL aT aC hs (HE.out.below hW) (HBr.out.below hW)
 clear hE hBr
 generalize lineO s d = LV at *
 go_enter Tryz.func20, Tryz.ntmps20
 go_wp2_with fail
 have hb0 : ∀ o : Obj, Below w.heap.size w (w.alloc o) := fun o => (Below.refl _ _).alloc (Nat.le_refl _) o
 refine (HG.out _ (hb0 _)).mono ?_
 rintro e w1 ⟨v, rfl, hsl, hnil, hb1⟩
 have hB1 : Below w.heap.size w w1 := (hb0 _).trans (hb1.mono (by simp))
 have HE1 : Hid (Env w1 aL aT aC) := HE.out.below hB1
 obtain ⟨ev, hev⟩ : ∃ ev, ev = errV (askErr s) aL aT aC := ⟨_, rfl⟩
 rw [← hev]
 have HF : Hid (Calls Tryz.prog 36 #[ev] w1 fun e w' => e = .returned (faultV (askErr s)) ∧ Below w1.heap.size w1 w') := by
  rw [hev]; exact fault_any _ (by omega) w1 aL aT aC HE1.out
 have k0 : w1.cell? ⟨w.heap.size, 0, none⟩ = some (.int .i64 0) := by rw [hb1.cell (p := ⟨w.heap.size, 0, none⟩) (by simp)]; go_simp
 have k1 : w1.cell? ⟨w.heap.size, 1, none⟩ = some (.int .i64 0) := by rw [hb1.cell (p := ⟨w.heap.size, 1, none⟩) (by simp)]; go_simp
 have k2 : w1.cell? ⟨w.heap.size, 2, none⟩ = some (.int .i64 0) := by rw [hb1.cell (p := ⟨w.heap.size, 2, none⟩) (by simp)]; go_simp
 have f0 : w1.frozen? ⟨w.heap.size, 0, none⟩ = false := by rw [hb1.frozen (p := ⟨w.heap.size, 0, none⟩) (by simp)]; go_simp
 have f1 : w1.frozen? ⟨w.heap.size, 1, none⟩ = false := by rw [hb1.frozen (p := ⟨w.heap.size, 1, none⟩) (by simp)]; go_simp
 have f2 : w1.frozen? ⟨w.heap.size, 2, none⟩ = false := by rw [hb1.frozen (p := ⟨w.heap.size, 2, none⟩) (by simp)]; go_simp
 have hz : w.heap.size < w1.heap.size := by have := hb1.size; simp at this; omega
 have HB1 : Hid (Below w.heap.size w w1) := hB1
 have HS : Hid (w1.ownsRow (w.heap.size + 1) 3 1 v LV.length (iv LV)) := hsl.low (by simp)
 have HN : Hid (askErr s ≠ 0 → v = .slice none 0 0) := hnil
 clear hev hB1 hb1 hb0 hsl hnil HG
 go_wp2_with fail
 refine HF.out.mono ?_
 rintro e w2 ⟨rfl, hb2⟩
 obtain ⟨er, m, hfv⟩ : ∃ er m, faultV (askErr s) = .agg #[.int .i64 er, .int .i64 m, .int .i64 m] := ⟨_, _, rfl⟩
 have HFV : Hid (faultV (askErr s) = .agg #[.int .i64 er, .int .i64 m, .int .i64 m]) := hfv
 rw [hfv]
 have j0 : w2.cell? ⟨w.heap.size, 0, none⟩ = some (.int .i64 0) := cell_keep hb2 k0
 have j1 : w2.cell? ⟨w.heap.size, 1, none⟩ = some (.int .i64 0) := cell_keep hb2 k1
 have j2 : w2.cell? ⟨w.heap.size, 2, none⟩ = some (.int .i64 0) := cell_keep hb2 k2
 have g0 : w2.frozen? ⟨w.heap.size, 0, none⟩ = false := (hb2.frozen (p := ⟨w.heap.size, 0, none⟩) hz).trans f0
 have g1 : w2.frozen? ⟨w.heap.size, 1, none⟩ = false := (hb2.frozen (p := ⟨w.heap.size, 1, none⟩) hz).trans f1
 have g2 : w2.frozen? ⟨w.heap.size, 2, none⟩ = false := (hb2.frozen (p := ⟨w.heap.size, 2, none⟩) hz).trans f2
 have HB2 : Hid (Below w.heap.size w w2) := HB1.out.trans (hb2.mono HB1.out.size)
 have HS2 : Hid (w2.ownsRow (w.heap.size + 1) 3 1 v LV.length (iv LV)) := ownsRow_blocks HS.out fun k o _ ho => heap_keep hb2 ho
 clear hfv hb2 k0 k1 k2 f0 f1 f2 HF
 go_wp2
 refine bodyPost_ret (v := .tuple #[v, .agg #[.int .i64 er, .int .i64 m, .int .i64 m]]) (by simp [results, Tryz.results20, go_sem, j0, j1, j2]) rfl ⟨v, by rw [HFV.out], ?_, HN.out, ?_⟩
 ·exact own_lower (ownsRow_setCell_below (ownsRow_setCell_below (ownsRow_setCell_below HS2.out (by simp) _) (by simp) _) (by simp) _)
 ·exact ((HB2.out.setCell (Nat.le_refl _) _).setCell (Nat.le_refl _) _).setCell (Nat.le_refl _) _
set_option maxRecDepth 100000 in
set_option maxHeartbeats 2000000 in
theorem plays_order (o : OpD) (w : World) (aL aT aC : Addr) (hk : o.k = 3) (hs : o.s.size ≤ 9223372036854775807) (hE : Env w aL aT aC) (hBr : Br w) :
  Calls Tryz.prog 18 #[opV o] w fun e w' => e = .returned (.bool true) ∧ Below w.heap.size w w' := by
 obtain ⟨k, a, s, oe⟩ := o
 simp only at hk hs
 subst hk
 unfold opV
 have hln : (lineO s a).length ≤ 300 := by rw [lineO_len]; exact lineQ_len s a
 have HP : Hid (∀ W, Below w.heap.size w W → Calls Tryz.prog 20 #[.string s, .int .i64 a] W fun e w' => ∃ v, e = .returned (.tuple #[v, faultV (askErr s)]) ∧ w'.ownsRow W.heap.size 3 1 v (lineO s a).length (iv (lineO s a)) ∧ (askErr s ≠ 0 → v = .slice none 0 0) ∧ Below W.heap.size W w') := fun W hW => plainOrder_any s a W aL aT aC hs (hE.below hW) (hBr.below hW)
 have HR : Hid (∀ W, Calls Tryz.prog 30 #[.string s, .int .i64 a] W fun e w' => Below W.heap.size W w' ∧ ∃ v, e = .returned (.tuple #[v, faultV (askErr s)]) ∧ w'.ownsRow W.heap.size 3 1 v (lineO s a).length (iv (lineO s a))) := fun W => refLineO_any s a W
 clear hE hBr
 generalize lineO s a = LV at *
 go_enter Tryz.func18, Tryz.ntmps18
 go_wp2_with fail
 have hb0 : Below w.heap.size w (w.alloc (.cells #[.int .i64 3, .int .i64 a, .string s, oe] 29)) := (Below.refl _ _).alloc (Nat.le_refl _) _
 refine (HP.out _ hb0).mono ?_
 rintro e w1 ⟨v, rfl, hsl0, hnil, hb1⟩
 have hsl : SlI w1 v LV := SlI.of_owns hsl0
 have hB1 : Below w.heap.size w w1 := hb0.trans (hb1.mono (by simp))
 have k1 : w1.cell? ⟨w.heap.size, 1, none⟩ = some (.int .i64 a) := by rw [hb1.cell (p := ⟨w.heap.size, 1, none⟩) (by simp)]; go_simp
 have k2 : w1.cell? ⟨w.heap.size, 2, none⟩ = some (.string s) := by rw [hb1.cell (p := ⟨w.heap.size, 2, none⟩) (by simp)]; go_simp
 have hz1 : w.heap.size < w1.heap.size := by have := hb1.size; simp at this; omega
 have HB1 : Hid (Below w.heap.size w w1) := hB1
 have HS1 : Hid (SlI w1 v LV) := hsl
 have HN : Hid (askErr s ≠ 0 → v = .slice none 0 0) := hnil
 obtain ⟨er, m, hfv⟩ : ∃ er m, faultV (askErr s) = .agg #[.int .i64 er, .int .i64 m, .int .i64 m] ∧ er = askErr s := ⟨_, _, rfl, rfl⟩
 have HFV : Hid (faultV (askErr s) = .agg #[.int .i64 er, .int .i64 m, .int .i64 m]) := hfv.1
 have HER : Hid (er = askErr s) := hfv.2
 rw [hfv.1]
 clear hfv hb1 hb0 hB1 hsl hsl0 hnil HP
 go_wp2_with fail
 refine (HR.out _).mono ?_
 rintro e w2 ⟨hb2, v2, rfl, hsl2⟩
 rw [HFV.out]
 have hz2 : w1.heap.size < w2.heap.size := by have := hb2.size; simp at this; omega
 have a0 : w2.cell? ⟨w1.heap.size, 0, none⟩ = some (.int .i64 er) := by rw [hb2.cell (p := ⟨w1.heap.size, 0, none⟩) (by simp)]; go_simp
 have a1 : w2.cell? ⟨w1.heap.size, 1, none⟩ = some (.int .i64 m) := by rw [hb2.cell (p := ⟨w1.heap.size, 1, none⟩) (by simp)]; go_simp
 have a2 : w2.cell? ⟨w1.heap.size, 2, none⟩ = some (.int .i64 m) := by rw [hb2.cell (p := ⟨w1.heap.size, 2, none⟩) (by simp)]; go_simp
 have hB2 : Below w1.heap.size w1 w2 := ((Below.refl _ _).alloc (Nat.le_refl _) _).trans (hb2.mono (by simp))
 have HS3 : Hid (SlI w2 v LV) := HS1.out.below hB2
 have HS4 : Hid (SlI w2 v2 LV) := SlI.of_owns hsl2
 have HB2 : Hid (Below w.heap.size w w2) := HB1.out.trans (hB2.mono HB1.out.size)
 clear hb2 hsl2 hB2 k1 k2 HR
 go_wp2_with fail
 have hb3 : ∀ o : Obj, Below w2.heap.size w2 (w2.alloc o) := fun o => (Below.refl _ _).alloc (Nat.le_refl _) o
 refine (numbers_any er m m _ v v2 _ (by omega) (HS3.out.below (hb3 _)) (HS4.out.below (hb3 _)) (fun h => HN.out (by rw [← HER.out]; exact h))).mono ?_
 rintro e w3 ⟨rfl, hb4⟩
 go_wp2
 go_ret
 exact ⟨rfl, (HB2.out.trans ((hb3 _).mono HB2.out.size)).trans (hb4.mono (by have := HB2.out.size; simp; omega))⟩
end Go.Proofs.YtkbinfhclaafhaaGreatDoor
