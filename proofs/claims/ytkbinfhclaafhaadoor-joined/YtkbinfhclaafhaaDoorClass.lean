import Derived.Test.YtkbinfhclaafhaaDoorBase
namespace Go.Proofs.YtkbinfhclaafhaaDoor
open Go.RowKit

/-- One value appended to a row of the call's own. -/
theorem wpList_push {P : Program} (w : World) {ops : Array Oper} {rest : List Oper} {o : Oper} {a : Act} {Q : Exit → Act → World → Prop} (hgd : o.guard = none) (s x : Operand) (t : TypeId)
    (ho : o.op = .call { callee := .builtin .append, args := #[s, x], argTypes := #[t, t] })
    (base : Nat) (e : TypeId) (i : TypeInfo) (z : Value) (bytes : Nat) (ht : P.underlying t = some (.slice e)) (hi : P.info? e = some i) (hz : i.zero = some z)
    (hsize : i.size = 1) (hby : i.bytes = bytes) (hzs : z.cells.size = 1) (hb64 : bytes ≤ 64)
    (v : Value) (n : Nat) (xs : List Value) (hs : a.eval s = v) (hown : w.ownsRow base e 1 v n xs)
    (y : Value) (e' : TypeId) (hx : a.eval x = .slice (some ⟨w.heap.size, 0, none⟩) 1 1) (h1 : y.oneCell' = true) (hn : n ≤ 1000000) (hbase : base ≤ w.heap.size)
    (h : ∀ v' w', w'.ownsRow base e 1 v' (n + 1) (xs ++ [y]) → Below base w w' → wpList P ops Q rest (a.put o.dst v') w') : wpList P ops Q (o :: rest) a (w.alloc (.cells #[y] e')) := by
  refine wpList_append_own _ hgd s x t ho base e i z 1 bytes ht hi hz hsize hby hzs (by decide) v n xs hs (hown.alloc _) ⟨w.heap.size, 0, none⟩ 1 1 [y] hx rfl ?_ ?_ ?_ ?_ ?_ ?_
  · intro j u hj
    match j, hj with
    | 0, hj => simp at hj; subst hj; simp [Addr.add]
  · intro u hu; simp at hu; subst hu; exact h1
  · unfold maxLen; omega
  · have : (n + 1) * bytes ≤ 1000001 * 64 := Nat.mul_le_mul (by omega) hb64
    omega
  · simp; omega
  · intro v' w' h2 h3 _
    exact h v' w' h2 (((Below.refl base w).alloc hbase _).grown h3 (by simp; omega) fun k hk => (hown.lt k hk).1)

theorem SlI.of_owns {w : World} {base : Nat} {e : TypeId} {v : Value} {n : Nat} {l : List Int} (h : w.ownsRow base e 1 v n (l.map (Value.int .i64))) : SlI w v l := by
  have hn : l.length = n := by have := h.1; simpa using this
  rcases h.2 with ⟨rfl, h0⟩ | ⟨g, cap, cur, rfl, _⟩
  · exact .inl ⟨rfl, List.length_eq_zero_iff.1 (by omega)⟩
  · refine .inr ⟨g, 0, cap, by rw [hn], fun i hi => ?_⟩
    have := h.cellAt i (by omega)
    rw [Nat.zero_add, this, List.getElem?_map, List.getElem?_eq_getElem hi]
    simp [List.getD_eq_getElem?_getD, List.getElem?_eq_getElem hi]
theorem intsAt_alloc (w : World) (l : List Int) (t : TypeId) : IntsAt (w.alloc (.cells (l.map (Value.int .i64)).toArray t)) w.heap.size 0 l := by
  intro i hi
  rw [World.cell?_alloc_at _ _ _ _ rfl]
  simp [List.getD_eq_getElem?_getD, List.getElem?_eq_getElem hi]

theorem intsAt_new (w : World) (n : Nat) (l : List Int) (cs : Array Value) (t : TypeId) (hn : n = w.heap.size) (hcs : cs = (l.map (Value.int .i64)).toArray) : IntsAt (w.alloc (.cells cs t)) n 0 l := by
  subst hn; subst hcs; exact intsAt_alloc w l t
theorem wrap64_u8 (b : UInt8) : wrap64 (b.toNat : Int) = (b.toNat : Int) := by have := b.toNat_lt; exact IntWalk.wrap64_in _ (by omega)
theorem Tryd.infoInt : (Tryd.prog.info? 3).map (fun i => (i.zero, i.size, i.bytes)) = some (some (.int .i64 0), 1, 8) := by kernel_rfl

/-- A text's bytes as numbers. -/
def bytesI (s : ByteArray) : List Int := s.data.toList.map fun b => (b.toNat : Int)
theorem bytesI_length (s : ByteArray) : (bytesI s).length = s.size := by simp only [bytesI, List.length_map, Array.length_toList]; rfl
theorem bytesI_snoc (s : ByteArray) (k : Nat) (h : k < s.size) : (bytesI s).take (k + 1) = (bytesI s).take k ++ [(s[k].toNat : Int)] := by
  rw [List.take_succ_eq_append_getElem (by rw [bytesI_length]; exact h)]
  congr 1
  simp [bytesI]
  rfl

/-- The class of a rune: the document's table. -/
def cls (r : Int) : Int :=
  if (1488 ≤ r ∧ r ≤ 1514) ∨ r = 8207 then 1
  else if (1575 ≤ r ∧ r ≤ 1610) ∨ r = 1564 then 2
  else if 48 ≤ r ∧ r ≤ 57 then 3
  else if r = 43 ∨ r = 45 then 4
  else if 1632 ≤ r ∧ r ≤ 1641 then 6
  else if (768 ≤ r ∧ r ≤ 879) ∨ (1611 ≤ r ∧ r ≤ 1618) then 8
  else if r = 173 ∨ r = 8203 then 9
  else if r = 9 then 10
  else if r = 32 ∨ r = 8195 then 11
  else if 8294 ≤ r ∧ r ≤ 8297 then 18 + r - 8294
  else if amongB r [35, 36, 37, 8364] = true then 5
  else if amongB r [44, 46, 47, 58] = true then 7
  else if amongB r (bytesI { data := #[33, 34, 38, 39, 40, 41, 42, 59, 60, 61, 62, 63, 64, 91, 92, 93, 94, 95, 96, 123, 124, 125, 126] }) = true ∨ amongB r [9001, 9002, 12296, 12297] = true then 12
  else if r = 8234 then 13
  else if r = 8235 then 14
  else if r = 8237 then 15
  else if r = 8238 then 16
  else if r = 8236 then 17
  else 0

theorem cls_0 {r : Int} (h : (1488 ≤ r ∧ r ≤ 1514) ∨ r = 8207) : cls r = 1 := by
  unfold cls
  rw [if_pos h]
theorem cls_1 {r : Int} (h : (1575 ≤ r ∧ r ≤ 1610) ∨ r = 1564) : cls r = 2 := by
  unfold cls
  rw [if_neg (by omega)]
  rw [if_pos h]
theorem cls_2 {r : Int} (h : 48 ≤ r ∧ r ≤ 57) : cls r = 3 := by
  unfold cls
  rw [if_neg (by omega)]
  rw [if_neg (by omega)]
  rw [if_pos h]
theorem cls_3 {r : Int} (h : r = 43 ∨ r = 45) : cls r = 4 := by
  unfold cls
  rw [if_neg (by omega)]
  rw [if_neg (by omega)]
  rw [if_neg (by omega)]
  rw [if_pos h]
theorem cls_4 {r : Int} (h : 1632 ≤ r ∧ r ≤ 1641) : cls r = 6 := by
  unfold cls
  rw [if_neg (by omega)]
  rw [if_neg (by omega)]
  rw [if_neg (by omega)]
  rw [if_neg (by omega)]
  rw [if_pos h]
theorem cls_5 {r : Int} (h : (768 ≤ r ∧ r ≤ 879) ∨ (1611 ≤ r ∧ r ≤ 1618)) : cls r = 8 := by
  unfold cls
  rw [if_neg (by omega)]
  rw [if_neg (by omega)]
  rw [if_neg (by omega)]
  rw [if_neg (by omega)]
  rw [if_neg (by omega)]
  rw [if_pos h]
theorem cls_6 {r : Int} (h : r = 173 ∨ r = 8203) : cls r = 9 := by
  unfold cls
  rw [if_neg (by omega)]
  rw [if_neg (by omega)]
  rw [if_neg (by omega)]
  rw [if_neg (by omega)]
  rw [if_neg (by omega)]
  rw [if_neg (by omega)]
  rw [if_pos h]
theorem cls_7 {r : Int} (h : r = 9) : cls r = 10 := by
  unfold cls
  rw [if_neg (by omega)]
  rw [if_neg (by omega)]
  rw [if_neg (by omega)]
  rw [if_neg (by omega)]
  rw [if_neg (by omega)]
  rw [if_neg (by omega)]
  rw [if_neg (by omega)]
  rw [if_pos h]
theorem cls_8 {r : Int} (h : r = 32 ∨ r = 8195) : cls r = 11 := by
  unfold cls
  rw [if_neg (by omega)]
  rw [if_neg (by omega)]
  rw [if_neg (by omega)]
  rw [if_neg (by omega)]
  rw [if_neg (by omega)]
  rw [if_neg (by omega)]
  rw [if_neg (by omega)]
  rw [if_neg (by omega)]
  rw [if_pos h]
theorem cls_9 {r : Int} (h : 8294 ≤ r ∧ r ≤ 8297) : cls r = 18 + r - 8294 := by
  unfold cls
  rw [if_neg (by omega)]
  rw [if_neg (by omega)]
  rw [if_neg (by omega)]
  rw [if_neg (by omega)]
  rw [if_neg (by omega)]
  rw [if_neg (by omega)]
  rw [if_neg (by omega)]
  rw [if_neg (by omega)]
  rw [if_neg (by omega)]
  rw [if_pos h]

/-- The first ten tests say no: what lies between. -/
def Between (r : Int) : Prop := ¬ ((1488 ≤ r ∧ r ≤ 1514) ∨ r = 8207) ∧ ¬ ((1575 ≤ r ∧ r ≤ 1610) ∨ r = 1564) ∧ ¬ (48 ≤ r ∧ r ≤ 57) ∧ ¬ (r = 43 ∨ r = 45) ∧ ¬ (1632 ≤ r ∧ r ≤ 1641) ∧ ¬ ((768 ≤ r ∧ r ≤ 879) ∨ (1611 ≤ r ∧ r ≤ 1618)) ∧ ¬ (r = 173 ∨ r = 8203) ∧ ¬ r = 9 ∧ ¬ (r = 32 ∨ r = 8195) ∧ ¬ (8294 ≤ r ∧ r ≤ 8297)


/-- Behind the first ten tests. -/
theorem cls_between {r : Int} (h : Between r) : cls r = if amongB r [35, 36, 37, 8364] = true then 5
  else if amongB r [44, 46, 47, 58] = true then 7
  else if amongB r (bytesI { data := #[33, 34, 38, 39, 40, 41, 42, 59, 60, 61, 62, 63, 64, 91, 92, 93, 94, 95, 96, 123, 124, 125, 126] }) = true ∨ amongB r [9001, 9002, 12296, 12297] = true then 12
  else if r = 8234 then 13
  else if r = 8235 then 14
  else if r = 8237 then 15
  else if r = 8238 then 16
  else if r = 8236 then 17
  else 0 := by
  obtain ⟨h1, h2, h3, h4, h5, h6, h7, h8, h9, h10⟩ := h
  unfold cls
  rw [if_neg h1, if_neg h2, if_neg h3, if_neg h4, if_neg h5, if_neg h6, if_neg h7, if_neg h8, if_neg h9, if_neg h10]

end Go.Proofs.YtkbinfhclaafhaaDoor
