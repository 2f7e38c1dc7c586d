/-
  The call of the laws' awake: it returns true. No conditions.
-/
import Derived.Test.YthfpafnljnnndaaGreatSMSum
import Derived.Test.YthfpafnljnnndaaGreatSMView
import Derived.Test.YthfpafnljnnndaaGreatSM4
namespace Go.Proofs.YthfpafnljnnndaaGreat
open Go.RowKit Go.Joins
open JM (Chg St)
open MM (Mem Ent Sm Tri)

def Ga : List Mem := [(1, 1), (2, 3)]
def Ca : List Chg := [(1, 4, 2, 0, 0, 0, 0), (2, 1, 0, 0, 0, 0, 0), (4, 0, 0, 1, 2, 0, 0)]
def Pa : MM.Prp := (201, 1, Ca)
def Sa : Sm := ⟨[1, 2, 4], [1], [(1, 1, 0, 0, 0), (2, 3, 0, 0, 0), (4, 2, 0, 201, 1)], 2, 0, 0, 1, 201, 1⟩
end Go.Proofs.YthfpafnljnnndaaGreat
