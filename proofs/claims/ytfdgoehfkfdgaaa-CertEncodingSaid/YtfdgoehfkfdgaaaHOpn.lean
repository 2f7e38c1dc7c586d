/-
  What a statement's reading tells of a certificate that came in. No conditions.
-/
import Derived.Test.YtfdgoehfkfdgaaaHBase
import Derived.Test.YtfdgoehfkfdgaaaKG
import Derived.ChangeSame
namespace Go.Proofs.Ytfdgoehfkfdgaaa
open Go.ChangeShapes Go.WideShapes Go.ChangeAt Go.RowKit
open JM (Chg)
open CM (Fp)

section
variable {H : Type} {enc : TypeId × Value → H} {W : World}
set_option maxRecDepth 100000 in
theorem cert_of_trod {r : Reach} {b0 : Nat} {v : Value} {d : DataW H} {p : List MemPlace} (hv : Value.okWide Try.prog W r b0 25 v) (h : DataW.Trod enc Try.prog W 0 (fun _ => true) true 25 v d p) :
    ∃ a b f t, v = cev a b ∧ (RdF W a f ∧ RdF W b t) := by
  obtain ⟨cs, rfl, hsz⟩ := okWide_struct Try.underlying25 hv
  have hC : cs.size = 2 := hsz.trans (by kernel_rfl)
  have k1 : Try.prog.cellsOf 23 = 1 := by kernel_rfl
  obtain ⟨l⟩ := cs
  match l, hC with
  | [c0, c1], _ =>
    obtain ⟨fuel, hf⟩ := h
    obtain ⟨y0, y1, m, _, _, h0, h1⟩ := Go.ChangeShapes.trod_struct2 Try.underlying25 hf
    simp only [k1] at h0 h1
    obtain ⟨f, hf'⟩ := rdF_of_trod h0
    obtain ⟨t, ht⟩ := rdF_of_trod h1
    exact ⟨c0, c1, f, t, rfl, hf', ht⟩
end
end Go.Proofs.Ytfdgoehfkfdgaaa
