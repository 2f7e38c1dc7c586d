/-
  The calls of the laws' own name, Effect and short: valid effects. Conditions: none on the numbers.
-/
import Derived.Test.YtohcmbdlcnhlfaaDoorQKI
import Derived.Test.YtohcmbdlcnhlfaaDoorQUR
namespace Go.Proofs.YtohcmbdlcnhlfaaDoor
open Go.RowKit
open UM (Ef)
open WM (enc dec zig zag Bytes)

namespace UM
/-- The laws' own names, effects. -/
def nm (n : Int) : ByteArray := if ix n 4 = 0 then ⟨#[97]⟩ else if ix n 4 = 1 then ⟨#[98]⟩ else if ix n 4 = 2 then ⟨#[99]⟩ else ⟨#[120, 49]⟩
def efK (n : Int) (b : Bool) : Ef :=
  if b = true then (1, nm (dg n 4 1), nm (dg n 4 2), (dg n 16 3 : Int) - 5, nm (dg n 4 5))
  else if dg n 4 0 = 0 then (2, nm (dg n 4 1), nm (dg n 4 2), (dg n 16 3 : Int) - 5, ⟨#[]⟩)
  else if dg n 4 0 = 1 then (3, nm (dg n 4 1), nm (dg n 4 2), (dg n 16 3 : Int) - 5, ⟨#[]⟩)
  else if dg n 4 0 = 2 then (4, nm (dg n 4 1), nm (dg n 4 2), 0, nm (dg n 4 5))
  else (5, nm (dg n 4 1), nm (dg n 4 2), 0, ⟨#[]⟩)
end UM

theorem OE.lt {w : World} {B : Nat} {a b c d e : Value} (h : OE w B a b c d e) : B < w.heap.size := (Array.getElem?_eq_some_iff.1 h).1
theorem OE.below {w w' : World} {B : Nat} {a b c d e : Value} (h : OE w B a b c d e) (hb : Below w.heap.size w w') : OE w' B a b c d e := below_block h hb
theorem OE.only {w w' : World} {g B : Nat} {a b c d e : Value} (h : OE w B a b c d e) (ho : Only g w w') (hne : B ≠ g) : OE w' B a b c d e := ho.at h hne
theorem OE.put4 {w : World} {B : Nat} {a b c d e : Value} (h : OE w B a b c d e) (u : Value) : OE (w.setCell ⟨B, 4, none⟩ u) B a b c d u := heap_setCell_same w B 4 _ _ u h

end Go.Proofs.YtohcmbdlcnhlfaaDoor
