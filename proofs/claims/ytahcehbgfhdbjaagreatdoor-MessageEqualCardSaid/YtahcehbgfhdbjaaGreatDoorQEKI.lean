/-
  The calls of the laws' own Index, Digit, At, Rule, Change. Conditions: a base from 2 to 16, an index up to 40, a list whose length is at most 2^62.
-/
import Derived.Test.YtahcehbgfhdbjaaGreatDoorQEKE
namespace Go.Proofs.YtahcehbgfhdbjaaGreatDoor
open Go.RowKit
open JM (Chg)

def ix (n k : Int) : Int := n.tmod k % k
def dg (n : Int) (b i : Nat) : Nat := (ix n 1099511627776).toNat / b ^ i % b
/-- Element i of a list that is repeated without end. -/
def atV (l : List Int) (i : Nat) : Int := if l.length = 0 then 0 else l.getD (ix (i : Int) (l.length : Int)).toNat 0
end Go.Proofs.YtahcehbgfhdbjaaGreatDoor
