/-
  The calls that compare summaries and views, the program's and the reference's: true just where all is equal. No conditions beyond that they read.
-/
import Derived.Test.YteiicflodobpnaaGreatDoorMVf
namespace Go.Proofs.YteiicflodobpnaaGreatDoor
open Go.RowKit
open MM (Mem Ent Sm Tri)

theorem neq_wv (s t v a n s' t' v' a' n' : Int) (B : Bool) (h : B = decide ((s, t, v, a, n) = (s', t', v', a', n'))) (w : World) :
    (binOp .neq 54 (wv s t v a n) (wv s' t' v' a' n')).run Tryz.prog w = .ok (.bool (!B)) w := by
  rw [h, neq_wgt]; simp

end Go.Proofs.YteiicflodobpnaaGreatDoor
