import Derived.Test.YtkbinfhclaafhaaDoorRefPlain
import Derived.Lib.OthersKept
import Derived.RegionTactic
import Derived.BigRegion
namespace Go.Proofs.YtkbinfhclaafhaaDoor
open Go.RowKit

/-- An entry of the stack of explicit levels: level, override, isolate? -/
structure Ent where
  l : Int
  o : Int
  i : Bool
def Ent.cells (e : Ent) : List Value := [.int .i64 e.l, .int .i64 e.o, .bool e.i]
def entsV (st : List Ent) : List Value := st.flatMap Ent.cells
theorem entsV_length (st : List Ent) : (entsV st).length = st.length * 3 := by
  induction st with
  | nil => rfl
  | cons e r ih => simp only [entsV, List.flatMap_cons, List.length_append] at ih ⊢; rw [ih]; simp [Ent.cells]; omega
theorem entsV_snoc (st : List Ent) (e : Ent) : entsV (st ++ [e]) = entsV st ++ e.cells := by simp [entsV]
theorem entsV_last (st : List Ent) (e : Ent) (j : Nat) (hj : j < 3) : (entsV (st ++ [e]))[st.length * 3 + j]? = e.cells[j]? := by
  rw [entsV_snoc, List.getElem?_append_right (by rw [entsV_length]; omega), entsV_length]
  congr 1; omega

theorem heap_cell {w : World} {s : Nat} {cs : Array Value} {t : TypeId} {fr : Nat × Nat} (h : w.heap[s]? = some (.cells cs t fr)) (j : Nat) : w.cell? ⟨s, j, none⟩ = cs[j]? := by simp [World.cell?, h]
theorem heap_free {w : World} {s : Nat} {cs : Array Value} {t : TypeId} (h : w.heap[s]? = some (.cells cs t (0, 0))) (j : Nat) : w.frozen? ⟨s, j, none⟩ = false := by simp [World.frozen?, h]

/-! The machine, plain. -/
structure XS where
  st : List Ent
  isos : Int
  embs : Int
  valid : Int
def nextL (l odd : Int) : Int := if (l + 1) % 2 = odd then l + 1 else l + 2
def topE (st : List Ent) : Ent := st.getLastD ⟨0, -1, false⟩
def freeX (x : XS) (n : Int) : Bool := decide (n ≤ 125) && (x.isos == 0 && x.embs == 0)

end Go.Proofs.YtkbinfhclaafhaaDoor
