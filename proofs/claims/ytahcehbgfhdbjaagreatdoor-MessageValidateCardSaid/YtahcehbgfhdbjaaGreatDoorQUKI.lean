/-
  KI: joined texts, what nothing names left out.
-/
import Derived.Test.YtahcehbgfhdbjaaGreatDoorQUKE
namespace Go.Proofs.YtahcehbgfhdbjaaGreatDoor
open Go.RowKit
open JM (Chg)
def ix (n k:Int):Int:=n.tmod k % k
def dg (n:Int) (b i:Nat):Nat:=(ix n 1099511627776).toNat / b ^ i % b
def atV (l:List Int) (i:Nat):Int:=if l.length=0 then 0 else l.getD (ix (i:Int) (l.length:Int)).toNat 0
end Go.Proofs.YtahcehbgfhdbjaaGreatDoor

