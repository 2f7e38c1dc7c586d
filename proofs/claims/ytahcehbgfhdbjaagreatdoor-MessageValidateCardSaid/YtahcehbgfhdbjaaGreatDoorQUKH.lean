/-
  KH: joined texts, what nothing names left out.
-/
import Derived.Deep.LoopGhost
import Derived.Test.YtahcehbgfhdbjaaGreatDoorQUKG
import Derived.StillTailTactics
import Derived.Lib.AppendZerosOnto
import Derived.Lib.LazyBuf
import Derived.Deep.RegionHeld3
namespace Go.Proofs.YtahcehbgfhdbjaaGreatDoor
section
open Go.RowKit
open JM (Chg)
open CM (Fp)
end
section
open Go.RowKit
open JM (Chg)
open CM (Fp)
end
section
open Go.RowKit
open JM (Chg)
open CM (Fp)
open VM (Ent)
namespace CM
def vput (v:List Ent) (f:Fp):List Ent:=if v.length≠0/\(v.getD (v.length - 1) (0,0)).1=f.1 then v.set (v.length - 1) (f.1,(v.getD (v.length - 1) (0,0)).2+1) else v ++ [(f.1,1)]
def vo (fs:List Fp):List Ent:=fs.foldl vput []
def vr (fs:List Fp):List Ent:=fs.foldl (fun v f=>VM.wi v f.1 (VM.cnt v f.1+1)) []
end CM
end
section
open Go.RowKit
open JM (Chg)
open CM (Fp)
open VM (Ent)
end
section
open Go.RowKit
open JM (Chg)
open CM (Fp)
open VM (Ent)
namespace CM
def addP (c:List Fp) (f:Fp):Int×List Fp:=
 if errF f≠0 then (errF f,[]) else if hasK c f.1 f.2.1=true then (5,[]) else if f.2.1≠ct c f.1+1 then (8,[]) else (0,un c [f])
end CM
end
end Go.Proofs.YtahcehbgfhdbjaaGreatDoor

