import Derived.Test.YtkbinfhclaafhaaDoorRefFound
namespace Go.Proofs.YtkbinfhclaafhaaDoor
open Go.RowKit

/-- The place of the isolate that the PDI at place i matches; -1: none. -/
def openerF (cs : List Int) (i : Nat) : Nat → Int
  | 0 => -1
  | n + 1 => if isoB (cs.getD (i - (n + 1)) 0) = true ∧ mt cs (i - (n + 1)) = i then ((i - (n + 1) : Nat) : Int) else openerF cs i n
def opener (cs : List Int) (i : Nat) : Int := openerF cs i i

end Go.Proofs.YtkbinfhclaafhaaDoor
