/-
  The walk of the law VectorCompare: it returns true. No conditions beyond that the arguments read as data.
-/
import Derived.Test.YtpgkpjdefdpiiaaVLaws
namespace Go.Proofs.Ytpgkpjdefdpiiaa
open Go.RowKit
open VM (Ent)

set_option maxRecDepth 100000 in
set_option maxHeartbeats 4000000 in
theorem lVectorCompare (va vb : Value) (xs ys : List Ent) (w : World) (ha : RdV w va xs) (hb : RdV w vb ys) :
    Calls Try.prog 8 #[va, vb] w fun e w' => e = .returned (.bool true) ∧ Below w.heap.size w w' := by
  obtain ⟨aa, ca, rfl, hca, hla⟩ := ha.shape
  obtain ⟨ab, cb, rfl, hcb, hlb⟩ := hb.shape
  have hn := below_fresh w (.cells #[.slice aa xs.length ca, .slice ab ys.length cb] 23)
  have hv := rValid w.heap.size 2 [.slice aa xs.length ca, .slice ab ys.length cb] [xs, ys] _ rfl (cells_fresh w [.slice aa xs.length ca, .slice ab ys.length cb] 23) (.cons (ha.below hn) (.cons (hb.below hn) .nil)) (by decide)
  have HL := Lib.hid hn
  have HA := Lib.hid (ha.below hn)
  have HB := Lib.hid (hb.below hn)
  clear hn ha hb
  by_cases hg : [xs, ys].all good = true
  · rw [hg] at hv
    simp only [List.all_cons, List.all_nil, Bool.and_true, Bool.and_eq_true, good_iff] at hg
    obtain ⟨⟨ga, xa⟩, ⟨gb, xb⟩⟩ := hg
    have XA := Lib.hid xa
    have XB := Lib.hid xb
    clear xa xb
    have HE := Lib.hid (VM.le_both XA.out XB.out)
    cases hp : VM.le xs ys with
    | true =>
      have HP := Lib.hid hp
      cases hq : VM.le ys xs with
      | true =>
        have HQ := Lib.hid hq
        have HC1 := Lib.hid (show cmp xs ys = 0 by unfold cmp; rw [hp, hq]; rfl)
        have HC2 := Lib.hid (show cmp ys xs = 0 by unfold cmp; rw [hp, hq]; rfl)
        have HX := Lib.hid (show decide (xs = ys) = true from decide_eq_true (HE.out.1 ⟨hp, hq⟩))
        clear hq
        go_enter Try.func8, Try.ntmps8
        have hc := hv
        go_wp2_with fail
        refine hc.mono ?_
        rintro e w1 ⟨rfl, hb⟩
        replace HL := Lib.hid (HL.out.trans (hb.mono HL.out.size))
        replace HA := Lib.hid (HA.out.below hb)
        replace HB := Lib.hid (HB.out.below hb)
        clear hc hb
        clear hv
        have hc := rLe _ _ _ _ _ true HA.out HB.out HP.out
        go_wp2_with fail
        refine hc.mono ?_
        rintro e w2 ⟨rfl, hb⟩
        replace HL := Lib.hid (HL.out.trans (hb.mono HL.out.size))
        replace HA := Lib.hid (HA.out.below hb)
        replace HB := Lib.hid (HB.out.below hb)
        clear hc hb
        have hc := rLe _ _ _ _ _ true HB.out HA.out HQ.out
        go_wp2_with fail
        refine hc.mono ?_
        rintro e w3 ⟨rfl, hb⟩
        replace HL := Lib.hid (HL.out.trans (hb.mono HL.out.size))
        replace HA := Lib.hid (HA.out.below hb)
        replace HB := Lib.hid (HB.out.below hb)
        clear hc hb
        have hc := wLe _ _ _ _ _ true HA.out HB.out XA.out XB.out HP.out
        go_wp2_with fail
        refine hc.mono ?_
        rintro e w4 ⟨rfl, hb⟩
        replace HL := Lib.hid (HL.out.trans (hb.mono HL.out.size))
        replace HA := Lib.hid (HA.out.below hb)
        replace HB := Lib.hid (HB.out.below hb)
        clear hc hb
        have hc := wCmpB _ _ _ _ _ 0 HA.out HB.out XA.out XB.out HC1.out
        go_wp2_with fail
        refine hc.mono ?_
        rintro e w5 ⟨rfl, hb⟩
        replace HL := Lib.hid (HL.out.trans (hb.mono HL.out.size))
        replace HA := Lib.hid (HA.out.below hb)
        replace HB := Lib.hid (HB.out.below hb)
        clear hc hb
        have hc := wCmpB _ _ _ _ _ 0 HB.out HA.out XB.out XA.out HC2.out
        go_wp2_with fail
        refine hc.mono ?_
        rintro e w6 ⟨rfl, hb⟩
        replace HL := Lib.hid (HL.out.trans (hb.mono HL.out.size))
        replace HA := Lib.hid (HA.out.below hb)
        replace HB := Lib.hid (HB.out.below hb)
        clear hc hb
        have hc0 := rEqual _ _ _ _ _ HA.out HB.out
        rw [HX.out] at hc0
        have hc := hc0
        go_wp2_with fail
        refine hc.mono ?_
        rintro e w7 ⟨rfl, hb⟩
        replace HL := Lib.hid (HL.out.trans (hb.mono HL.out.size))
        clear HA HB
        clear hc hb
        clear hc0
        have hc := awakeAt HL
        go_wp2_with fail
        refine hc.mono ?_
        rintro e w8 ⟨rfl, hb⟩
        replace HL := Lib.hid (HL.out.trans (hb.mono HL.out.size))
        clear hc hb
        go_wp2
        go_ret
        exact ⟨rfl, HL.out⟩
      | false =>
        have HQ := Lib.hid hq
        have HC1 := Lib.hid (show cmp xs ys = 1 by unfold cmp; rw [hp, hq]; rfl)
        have HC2 := Lib.hid (show cmp ys xs = 2 by unfold cmp; rw [hp, hq]; rfl)
        have HX := Lib.hid (show decide (xs = ys) = false from decide_eq_false fun h => by have := HE.out.2 h; rw [hp, hq] at this; simp at this)
        clear hp hq
        go_enter Try.func8, Try.ntmps8
        have hc := hv
        go_wp2_with fail
        refine hc.mono ?_
        rintro e w1 ⟨rfl, hb⟩
        replace HL := Lib.hid (HL.out.trans (hb.mono HL.out.size))
        replace HA := Lib.hid (HA.out.below hb)
        replace HB := Lib.hid (HB.out.below hb)
        clear hc hb
        clear hv
        have hc := rLe _ _ _ _ _ true HA.out HB.out HP.out
        go_wp2_with fail
        refine hc.mono ?_
        rintro e w2 ⟨rfl, hb⟩
        replace HL := Lib.hid (HL.out.trans (hb.mono HL.out.size))
        replace HA := Lib.hid (HA.out.below hb)
        replace HB := Lib.hid (HB.out.below hb)
        clear hc hb
        have hc := rLe _ _ _ _ _ false HB.out HA.out HQ.out
        go_wp2_with fail
        refine hc.mono ?_
        rintro e w3 ⟨rfl, hb⟩
        replace HL := Lib.hid (HL.out.trans (hb.mono HL.out.size))
        replace HA := Lib.hid (HA.out.below hb)
        replace HB := Lib.hid (HB.out.below hb)
        clear hc hb
        have hc := wLe _ _ _ _ _ true HA.out HB.out XA.out XB.out HP.out
        go_wp2_with fail
        refine hc.mono ?_
        rintro e w4 ⟨rfl, hb⟩
        replace HL := Lib.hid (HL.out.trans (hb.mono HL.out.size))
        replace HA := Lib.hid (HA.out.below hb)
        replace HB := Lib.hid (HB.out.below hb)
        clear hc hb
        have hc := wCmpB _ _ _ _ _ 1 HA.out HB.out XA.out XB.out HC1.out
        go_wp2_with fail
        refine hc.mono ?_
        rintro e w5 ⟨rfl, hb⟩
        replace HL := Lib.hid (HL.out.trans (hb.mono HL.out.size))
        replace HA := Lib.hid (HA.out.below hb)
        replace HB := Lib.hid (HB.out.below hb)
        clear hc hb
        have hc := wCmpB _ _ _ _ _ 2 HB.out HA.out XB.out XA.out HC2.out
        go_wp2_with fail
        refine hc.mono ?_
        rintro e w6 ⟨rfl, hb⟩
        replace HL := Lib.hid (HL.out.trans (hb.mono HL.out.size))
        replace HA := Lib.hid (HA.out.below hb)
        replace HB := Lib.hid (HB.out.below hb)
        clear hc hb
        have hc0 := rEqual _ _ _ _ _ HA.out HB.out
        rw [HX.out] at hc0
        have hc := hc0
        go_wp2_with fail
        refine hc.mono ?_
        rintro e w7 ⟨rfl, hb⟩
        replace HL := Lib.hid (HL.out.trans (hb.mono HL.out.size))
        clear HA HB
        clear hc hb
        clear hc0
        have hc := awakeAt HL
        go_wp2_with fail
        refine hc.mono ?_
        rintro e w8 ⟨rfl, hb⟩
        replace HL := Lib.hid (HL.out.trans (hb.mono HL.out.size))
        clear hc hb
        go_wp2
        go_ret
        exact ⟨rfl, HL.out⟩
    | false =>
      have HP := Lib.hid hp
      cases hq : VM.le ys xs with
      | true =>
        have HQ := Lib.hid hq
        have HC1 := Lib.hid (show cmp xs ys = 2 by unfold cmp; rw [hp, hq]; rfl)
        have HC2 := Lib.hid (show cmp ys xs = 1 by unfold cmp; rw [hp, hq]; rfl)
        have HX := Lib.hid (show decide (xs = ys) = false from decide_eq_false fun h => by have := HE.out.2 h; rw [hp, hq] at this; simp at this)
        clear hq
        go_enter Try.func8, Try.ntmps8
        have hc := hv
        go_wp2_with fail
        refine hc.mono ?_
        rintro e w1 ⟨rfl, hb⟩
        replace HL := Lib.hid (HL.out.trans (hb.mono HL.out.size))
        replace HA := Lib.hid (HA.out.below hb)
        replace HB := Lib.hid (HB.out.below hb)
        clear hc hb
        clear hv
        have hc := rLe _ _ _ _ _ false HA.out HB.out HP.out
        go_wp2_with fail
        refine hc.mono ?_
        rintro e w2 ⟨rfl, hb⟩
        replace HL := Lib.hid (HL.out.trans (hb.mono HL.out.size))
        replace HA := Lib.hid (HA.out.below hb)
        replace HB := Lib.hid (HB.out.below hb)
        clear hc hb
        have hc := rLe _ _ _ _ _ true HB.out HA.out HQ.out
        go_wp2_with fail
        refine hc.mono ?_
        rintro e w3 ⟨rfl, hb⟩
        replace HL := Lib.hid (HL.out.trans (hb.mono HL.out.size))
        replace HA := Lib.hid (HA.out.below hb)
        replace HB := Lib.hid (HB.out.below hb)
        clear hc hb
        have hc := wLe _ _ _ _ _ false HA.out HB.out XA.out XB.out HP.out
        go_wp2_with fail
        refine hc.mono ?_
        rintro e w4 ⟨rfl, hb⟩
        replace HL := Lib.hid (HL.out.trans (hb.mono HL.out.size))
        replace HA := Lib.hid (HA.out.below hb)
        replace HB := Lib.hid (HB.out.below hb)
        clear hc hb
        have hc := wCmpB _ _ _ _ _ 2 HA.out HB.out XA.out XB.out HC1.out
        go_wp2_with fail
        refine hc.mono ?_
        rintro e w5 ⟨rfl, hb⟩
        replace HL := Lib.hid (HL.out.trans (hb.mono HL.out.size))
        replace HA := Lib.hid (HA.out.below hb)
        replace HB := Lib.hid (HB.out.below hb)
        clear hc hb
        have hc := wCmpB _ _ _ _ _ 1 HB.out HA.out XB.out XA.out HC2.out
        go_wp2_with fail
        refine hc.mono ?_
        rintro e w6 ⟨rfl, hb⟩
        replace HL := Lib.hid (HL.out.trans (hb.mono HL.out.size))
        replace HA := Lib.hid (HA.out.below hb)
        replace HB := Lib.hid (HB.out.below hb)
        clear hc hb
        have hc0 := rEqual _ _ _ _ _ HA.out HB.out
        rw [HX.out] at hc0
        have hc := hc0
        go_wp2_with fail
        refine hc.mono ?_
        rintro e w7 ⟨rfl, hb⟩
        replace HL := Lib.hid (HL.out.trans (hb.mono HL.out.size))
        clear HA HB
        clear hc hb
        clear hc0
        have hc := awakeAt HL
        go_wp2_with fail
        refine hc.mono ?_
        rintro e w8 ⟨rfl, hb⟩
        replace HL := Lib.hid (HL.out.trans (hb.mono HL.out.size))
        clear hc hb
        go_wp2
        go_ret
        exact ⟨rfl, HL.out⟩
      | false =>
        have HQ := Lib.hid hq
        have HC1 := Lib.hid (show cmp xs ys = 3 by unfold cmp; rw [hp, hq]; rfl)
        have HC2 := Lib.hid (show cmp ys xs = 3 by unfold cmp; rw [hp, hq]; rfl)
        have HX := Lib.hid (show decide (xs = ys) = false from decide_eq_false fun h => by have := HE.out.2 h; rw [hp, hq] at this; simp at this)
        clear hp hq
        go_enter Try.func8, Try.ntmps8
        have hc := hv
        go_wp2_with fail
        refine hc.mono ?_
        rintro e w1 ⟨rfl, hb⟩
        replace HL := Lib.hid (HL.out.trans (hb.mono HL.out.size))
        replace HA := Lib.hid (HA.out.below hb)
        replace HB := Lib.hid (HB.out.below hb)
        clear hc hb
        clear hv
        have hc := rLe _ _ _ _ _ false HA.out HB.out HP.out
        go_wp2_with fail
        refine hc.mono ?_
        rintro e w2 ⟨rfl, hb⟩
        replace HL := Lib.hid (HL.out.trans (hb.mono HL.out.size))
        replace HA := Lib.hid (HA.out.below hb)
        replace HB := Lib.hid (HB.out.below hb)
        clear hc hb
        have hc := rLe _ _ _ _ _ false HB.out HA.out HQ.out
        go_wp2_with fail
        refine hc.mono ?_
        rintro e w3 ⟨rfl, hb⟩
        replace HL := Lib.hid (HL.out.trans (hb.mono HL.out.size))
        replace HA := Lib.hid (HA.out.below hb)
        replace HB := Lib.hid (HB.out.below hb)
        clear hc hb
        have hc := wLe _ _ _ _ _ false HA.out HB.out XA.out XB.out HP.out
        go_wp2_with fail
        refine hc.mono ?_
        rintro e w4 ⟨rfl, hb⟩
        replace HL := Lib.hid (HL.out.trans (hb.mono HL.out.size))
        replace HA := Lib.hid (HA.out.below hb)
        replace HB := Lib.hid (HB.out.below hb)
        clear hc hb
        have hc := wCmpB _ _ _ _ _ 3 HA.out HB.out XA.out XB.out HC1.out
        go_wp2_with fail
        refine hc.mono ?_
        rintro e w5 ⟨rfl, hb⟩
        replace HL := Lib.hid (HL.out.trans (hb.mono HL.out.size))
        replace HA := Lib.hid (HA.out.below hb)
        replace HB := Lib.hid (HB.out.below hb)
        clear hc hb
        have hc := wCmpB _ _ _ _ _ 3 HB.out HA.out XB.out XA.out HC2.out
        go_wp2_with fail
        refine hc.mono ?_
        rintro e w6 ⟨rfl, hb⟩
        replace HL := Lib.hid (HL.out.trans (hb.mono HL.out.size))
        replace HA := Lib.hid (HA.out.below hb)
        replace HB := Lib.hid (HB.out.below hb)
        clear hc hb
        have hc0 := rEqual _ _ _ _ _ HA.out HB.out
        rw [HX.out] at hc0
        have hc := hc0
        go_wp2_with fail
        refine hc.mono ?_
        rintro e w7 ⟨rfl, hb⟩
        replace HL := Lib.hid (HL.out.trans (hb.mono HL.out.size))
        clear HA HB
        clear hc hb
        clear hc0
        have hc := awakeAt HL
        go_wp2_with fail
        refine hc.mono ?_
        rintro e w8 ⟨rfl, hb⟩
        replace HL := Lib.hid (HL.out.trans (hb.mono HL.out.size))
        clear hc hb
        go_wp2
        go_ret
        exact ⟨rfl, HL.out⟩
  · have hg0 : [xs, ys].all good = false := by simpa using hg
    rw [hg0] at hv
    clear hg hg0
    go_enter Try.func8, Try.ntmps8
    have hc := hv
    go_wp2_with fail
    refine hc.mono ?_
    rintro e w1 ⟨rfl, hb⟩
    replace HL := Lib.hid (HL.out.trans (hb.mono HL.out.size))
    clear HA HB
    clear hc hb
    clear hv
    have hc := awakeAt HL
    go_wp2_with fail
    refine hc.mono ?_
    rintro e w2 ⟨rfl, hb⟩
    replace HL := Lib.hid (HL.out.trans (hb.mono HL.out.size))
    clear hc hb
    go_wp2
    go_ret
    exact ⟨rfl, HL.out⟩

end Go.Proofs.Ytpgkpjdefdpiiaa
