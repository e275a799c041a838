import Derived.Test.YtkbinfhclaafhaaDoorKeep
namespace Go.Proofs.YtkbinfhclaafhaaDoor
open Go.RowKit

/-- A step of a script, as a value. -/
structure OpD where
  k : Int
  a : Int
  s : ByteArray
  e : Value
def opV (o : OpD) : Value := .agg #[.int .i64 o.k, .int .i64 o.a, .string o.s, o.e]
def OpsAt (w : World) (b off : Nat) (ops : List OpD) : Prop := ∀ i (h : i < ops.length), w.cell? ⟨b, off + i * 4, none⟩ = some (.int .i64 ops[i].k) ∧ w.cell? ⟨b, off + i * 4 + 1, none⟩ = some (.int .i64 ops[i].a) ∧ w.cell? ⟨b, off + i * 4 + 2, none⟩ = some (.string ops[i].s) ∧ w.cell? ⟨b, off + i * 4 + 3, none⟩ = some ops[i].e ∧ ∃ ao n c, ops[i].e = .slice ao n c
theorem OpsAt.below {w w' : World} {b off : Nat} {ops : List OpD} (h : OpsAt w b off ops) (hb : Below w.heap.size w w') : OpsAt w' b off ops := fun i hi =>
  let ⟨h1, h2, h3, h4, h5⟩ := h i hi
  ⟨cell_keep hb h1, cell_keep hb h2, cell_keep hb h3, cell_keep hb h4, h5⟩
end Go.Proofs.YtkbinfhclaafhaaDoor
