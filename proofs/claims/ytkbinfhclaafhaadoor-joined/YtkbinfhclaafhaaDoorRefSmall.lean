import Derived.Test.YtkbinfhclaafhaaDoorSpec
import Derived.Test.YtkbinfhclaafhaaDoorClass
namespace Go.Proofs.YtkbinfhclaafhaaDoor
open Go.RowKit

end Go.Proofs.YtkbinfhclaafhaaDoor
