/-
  What a card's walk is handed: states, lists of updates, vectors and integers that came in, in one relation each. No conditions beyond those that each lemma names.
-/
import Derived.Test.YtdfablboenfblaaDoorQSOpn
import Derived.Test.YtdfablboenfblaaDoorQUVars
namespace Go.Proofs.YtdfablboenfblaaDoor.ST
set_option maxRecDepth 100000
open Go.ChangeShapes Go.WideShapes Go.ChangeAt Go.RowKit
open SM (Fp)

/-- A list of updates that reads, with effects whose fields are what the model allows. -/
def RdFE (W : World) (v : Value) (fs : List Fp) : Prop := RdF W v fs ∧ FitE fs
section
variable {H : Type} {enc : TypeId × Value → H} {W : World} {n : Nat} {x : DataW H × List MemPlace}
theorem rdFE_of_trod {v : Value} (hf : DataW.trod enc Tryd.prog W 0 (fun _ => true) true n 23 [v] = some x) : ∃ fs, RdFE W v fs := rdF_of_trod hf
theorem rdLE_of_trod {v : Value} (hf : DataW.trod enc Tryd.prog W 0 (fun _ => true) true n 22 [v] = some x) : ∃ fs, RdFE W v fs := rdL_of_trod hf
theorem int_of_trod {r : Reach} {b0 : Nat} {v : Value} {d : DataW H} {p : List MemPlace} (hv : Value.okWide Tryd.prog W r b0 3 v) (_ : DataW.Trod enc Tryd.prog W 0 (fun _ => true) true 3 v d p) : ∃ k, v = .int .i64 k ∧ True := by
  obtain ⟨k, hk⟩ := okWide_int Tryd.underlying3 hv
  exact ⟨k, hk, trivial⟩
end

end Go.Proofs.YtdfablboenfblaaDoor.ST
