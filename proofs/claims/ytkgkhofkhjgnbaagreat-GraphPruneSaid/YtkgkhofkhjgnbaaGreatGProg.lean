/-
  The program's calls of package graph, as the structure that the laws need. No conditions beyond the structure's own.
-/
import Derived.Test.YtkgkhofkhjgnbaaGreatGKp
import Derived.Test.YtkgkhofkhjgnbaaGreatGEq
import Derived.Test.YtkgkhofkhjgnbaaGreatGLv
import Derived.Test.YtkgkhofkhjgnbaaGreatGPa
import Derived.Test.YtkgkhofkhjgnbaaGreatGPt
namespace Go.Proofs.YtkgkhofkhjgnbaaGreat
open Go.RowKit Go.Joins Go.Shelf
open JM (Chg)
open CM (Fp)
open VM (Ent)
theorem gc : GC where
  build := pBuild
  contract := fun p gv bv L fb w op gd h hb ob pb => by
    rw [show (L.filter fun x => CM.conk x fb) = L.filter fun x => CM.cons x fb from List.filter_congr fun x hx => IM.conk_part op (gd.2 x hx).2 pb]
    exact pContract p gv bv L fb w op gd h hb ob
  prune := fun p gv bv L fb w op gd h hb ob pb => by
    rw [show (L.filter fun x => CM.conk x fb || CM.conk fb x) = L.filter fun x => CM.cons x fb || CM.cons fb x from List.filter_congr fun x hx => by rw [IM.conk_part op (gd.2 x hx).2 pb, IM.conk_part op pb (gd.2 x hx).2]]
    exact pPrune p gv bv L fb w op gd h hb ob
  equal := fun p gv hv L M w _ gd h k e => by
    subst e
    exact gpEqual gv hv L w h k (by have := gd.1; omega)
  levels := fun p gv L w _ gd h => pLevels gv L w h (by have := gd.1; omega) gd.nine
  paths := fun p gv L fr tg w _ gd h => pPaths p gv L fr tg w gd h
  path := fun p gv L fr tg w _ gd h => pPath p gv L fr tg w gd h
end Go.Proofs.YtkgkhofkhjgnbaaGreat
