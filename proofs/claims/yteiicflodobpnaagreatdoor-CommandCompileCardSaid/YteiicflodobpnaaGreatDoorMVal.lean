/-
  The calls of ValidateView and ValidateGenesis, the program's and the reference's: each returns the error that the plain mathematics says. No conditions beyond that the members read.
-/
import Derived.Test.YteiicflodobpnaaGreatDoorMFun
namespace Go.Proofs.YteiicflodobpnaaGreatDoor
open Go.RowKit
open MM (Mem Ent Sm Tri)

theorem isSrv_false {x : Int} : JM.isSrv x = false ↔ x < 1 ∨ 12 < x := by
  unfold JM.isSrv
  rw [decide_eq_false_iff_not]; omega
theorem errM_cons (p : Int) (m : Mem) (v : List Mem) : MM.errM p (m :: v) = if MM.off m = true then 9 else if m.1 ≤ p then 7 else MM.errM m.1 v := rfl
/-- The server ahead of place k. -/
def prevM (xs : List Mem) (k : Nat) : Int := if k = 0 then 0 else (xs.getD (k - 1) (0, 0)).1
theorem prevM_succ {xs : List Mem} {k : Nat} {m : Mem} (h : xs[k]? = some m) : prevM xs (k + 1) = m.1 := by simp [prevM, List.getD, h]

end Go.Proofs.YteiicflodobpnaaGreatDoor
