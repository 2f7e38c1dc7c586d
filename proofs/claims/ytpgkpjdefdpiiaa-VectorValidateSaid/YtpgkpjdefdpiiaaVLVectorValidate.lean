/-
  The walk of the law VectorValidate: it returns true. No conditions beyond that the arguments read as data.
-/
import Derived.Test.YtpgkpjdefdpiiaaVLaws
namespace Go.Proofs.Ytpgkpjdefdpiiaa
open Go.RowKit
open VM (Ent)

set_option maxRecDepth 100000 in
set_option maxHeartbeats 1000000 in
theorem lVectorValidate (v : Value) (xs : List Ent) (w : World) (h : RdV w v xs) :
    Calls Try.prog 3 #[v] w fun e w' => e = .returned (.bool true) ∧ Below w.heap.size w w' := by
  obtain ⟨a, c, rfl, hc, _⟩ := h.shape
  have H := Lib.hid h
  have HL := Lib.hid (Below.refl w.heap.size w)
  clear h
  by_cases hbig : 300 < xs.length
  · have hq : (300 : Int) < (xs.length : Int) := by omega
    clear hbig
    go_enter Try.func3, Try.ntmps3
    have hc := awakeAt HL
    go_wp2_with fail
    refine hc.mono ?_
    rintro e w1 ⟨rfl, hb⟩
    replace HL := Lib.hid (HL.out.trans (hb.mono HL.out.size))
    clear hc hb
    go_wp2
    go_ret
    exact ⟨rfl, HL.out⟩
  · have hq : ¬ ((300 : Int) < (xs.length : Int)) := by omega
    have h1 := wValidate _ xs w H.out
    have h2 := fun w1 (hb : Below w.heap.size w w1) => rValidate _ xs w1 (H.out.below hb)
    generalize VM.err 0 xs = r at h1 h2
    have H2 := Lib.hid h2
    clear h2 hbig
    go_enter Try.func3, Try.ntmps3
    have hc := h1
    go_wp2_with fail
    refine hc.mono ?_
    rintro e w1 ⟨rfl, hb⟩
    replace HL := Lib.hid (HL.out.trans (hb.mono HL.out.size))
    clear hc hb
    clear h1
    have hc := H2.out _ HL.out
    go_wp2_with fail
    refine hc.mono ?_
    rintro e w2 ⟨rfl, hb⟩
    replace HL := Lib.hid (HL.out.trans (hb.mono HL.out.size))
    clear hc hb
    have hc := awakeAt HL
    go_wp2_with fail
    refine hc.mono ?_
    rintro e w3 ⟨rfl, hb⟩
    replace HL := Lib.hid (HL.out.trans (hb.mono HL.out.size))
    clear hc hb
    go_wp2
    go_ret
    exact ⟨rfl, HL.out⟩

end Go.Proofs.Ytpgkpjdefdpiiaa
