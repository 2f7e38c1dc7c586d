/-
  The calls of the reference's Agree and of the laws' ValidStates. Conditions: the states read. (Written by mk_sref.py.)
-/
import Derived.Test.YtohcmbdlcnhlfaaDoorQSR1
import Derived.Test.YtohcmbdlcnhlfaaDoorQSM1
namespace Go.Proofs.YtohcmbdlcnhlfaaDoor.ST
open Go.RowKit Go.Joins
open UM (Ef)
open SM (Fp)

/-- What the laws' Valid says of two configurations. -/
def valid2 (xs ys : List Fp) : Bool := decide (SM.errL (0, 0) xs = 0) && (decide (SM.errL (0, 0) ys = 0) && SM.agr ys xs)
end Go.Proofs.YtohcmbdlcnhlfaaDoor.ST
