/-
  The call of the reference's Initial: the summary of a genesis. No conditions beyond that the members read and are few.
-/
import Derived.Test.YtdipheijagjelaaGreatMRWgh
namespace Go.Proofs.YtdipheijagjelaaGreat
open Go.RowKit
open MM (Mem Ent Sm Tri)

end Go.Proofs.YtdipheijagjelaaGreat
