/-
  The calls of config.Union and the reference's Union: the merged list. Conditions: both configurations read and are of bounded length.
  The call of the reference's Union: the merged list. Conditions: both configurations read and are of bounded length.
  The calls of config.Vector and the reference's VectorOf: the number of proposals of each administrator. Conditions: the configuration reads and is valid.
  The calls of the reference's VectorOf, of config.Restrict, config.Meet and the reference's Restrict and Meet. Conditions: what comes in reads; the vector is valid.
  The calls of slices.Grow, slices.Concat over configurations, config.Add and the reference's AddProposal. Conditions: what comes in reads; the configuration is valid.
-/
import Derived.Deep.LoopGhost
import Derived.Test.YtahcehbgfhdbjaaGreatDoorQEKG
import Derived.Test.YtahcehbgfhdbjaaGreatDoorQEKF
import Derived.StillTailTactics
import Derived.Lib.AppendZerosOnto
import Derived.Lib.LazyBuf
import Derived.Deep.RegionHeld3
import Derived.Test.YtahcehbgfhdbjaaGreatDoorQEKB
namespace Go.Proofs.YtahcehbgfhdbjaaGreatDoor
open Go.RowKit
open JM (Chg)
open CM (Fp)

end Go.Proofs.YtahcehbgfhdbjaaGreatDoor

namespace Go.Proofs.YtahcehbgfhdbjaaGreatDoor
open Go.RowKit
open JM (Chg)
open CM (Fp)

end Go.Proofs.YtahcehbgfhdbjaaGreatDoor

namespace Go.Proofs.YtahcehbgfhdbjaaGreatDoor
open Go.RowKit
open JM (Chg)
open CM (Fp)
open VM (Ent)

namespace CM
/-- One proposal more, as config.Vector counts it. -/
def vput (v : List Ent) (f : Fp) : List Ent := if v.length ≠ 0 ∧ (v.getD (v.length - 1) (0, 0)).1 = f.1 then v.set (v.length - 1) (f.1, (v.getD (v.length - 1) (0, 0)).2 + 1) else v ++ [(f.1, 1)]
def vo (fs : List Fp) : List Ent := fs.foldl vput []
/-- The reference's counting. -/
def vr (fs : List Fp) : List Ent := fs.foldl (fun v f => VM.wi v f.1 (VM.cnt v f.1 + 1)) []
end CM

end Go.Proofs.YtahcehbgfhdbjaaGreatDoor

namespace Go.Proofs.YtahcehbgfhdbjaaGreatDoor
open Go.RowKit
open JM (Chg)
open CM (Fp)
open VM (Ent)

end Go.Proofs.YtahcehbgfhdbjaaGreatDoor

namespace Go.Proofs.YtahcehbgfhdbjaaGreatDoor
open Go.RowKit
open JM (Chg)
open CM (Fp)
open VM (Ent)

namespace CM
/-- What Add answers: error and configuration. -/
def addP (c : List Fp) (f : Fp) : Int × List Fp :=
  if errF f ≠ 0 then (errF f, []) else if hasK c f.1 f.2.1 = true then (5, []) else if f.2.1 ≠ ct c f.1 + 1 then (8, []) else (0, un c [f])
end CM
end Go.Proofs.YtahcehbgfhdbjaaGreatDoor
