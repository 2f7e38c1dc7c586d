/-
  The calls EqualView of the reference and Equal of the program: true just where all is equal. No conditions beyond that they read.
-/
import Derived.Test.YteiicflodobpnaaGreatDoorMEq
namespace Go.Proofs.YteiicflodobpnaaGreatDoor
open Go.RowKit
open MM (Mem Ent Sm Tri)

theorem neq_mv (s t s' t' : Int) (B : Bool) (h : B = decide ((s, t) = (s', t'))) (w : World) :
    (binOp .neq 63 (mv s t) (mv s' t')).run Tryz.prog w = .ok (.bool (!B)) w := by
  rw [h, neq_mem]; simp
end Go.Proofs.YteiicflodobpnaaGreatDoor
