/-
  The call of the laws' own Update: a valid update. Conditions: the identifier is one of a client, the number from 1 to 8. (Written by mk_ukit2.py.)
-/
import Derived.Deep.RegionHeld3
import Derived.Deep.CutRange
import Derived.Test.YtohcmbdlcnhlfaaDoorQUKit
namespace Go.Proofs.YtohcmbdlcnhlfaaDoor
open Go.RowKit
open UM (Ef)

namespace UM
end UM
end Go.Proofs.YtohcmbdlcnhlfaaDoor
