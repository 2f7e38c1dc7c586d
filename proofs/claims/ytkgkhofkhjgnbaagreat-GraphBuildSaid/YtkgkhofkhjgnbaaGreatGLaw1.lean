/-
  The call of the law GraphBuild: it returns true. Conditions: what came in reads; GCon's structure.
-/
import Derived.Deep.RegionHeld3
import Derived.Test.YtkgkhofkhjgnbaaGreatGOrd
namespace Go.Proofs.YtkgkhofkhjgnbaaGreat
open Go.RowKit Go.Joins Go.Shelf
open JM (Chg)
open CM (Fp)
open VM (Ent)

set_option maxRecDepth 100000 in
set_option maxHeartbeats 8000000 in
theorem lGraphBuild (H : GC) (v : Value) (l : List Int) (x y : Int) (w : World) (h : RdI w v l) (hl : l.length ≤ 4611686018427387904) :
    Calls Tryz.prog 3 #[v, .int .i64 x, .int .i64 y] w fun e w' => e = .returned (.bool true) ∧ Below w.heap.size w w' := by
  have HL := Lib.hid h
  have HLL := Lib.hid hl
  have HB := Lib.hid (Below.refl w.heap.size w)
  clear h hl
  go_enter Tryz.func3, Tryz.ntmps3
  go_wp2_with fail
  refine (kPool _ l w HL.out HLL.out).mono ?_
  rintro e w1 ⟨u1, p, rfl, hr, op, hq⟩
  replace HB := Lib.hid (bnext HB.out hq)
  have HP := Lib.hid hr
  clear HLL
  clear hq hr
  have hp9 : p.length ≤ 1000 := by have := op.nine; omega
  go_wp2_with fail
  refine (kPart _ p x w1 HP.out hp9).mono ?_
  rintro e w2 ⟨u2, g, rfl, hr, hq⟩
  obtain ⟨fa, hfa⟩ : ∃ z, z = CM.rs p g := ⟨_, rfl⟩
  rw [← hfa] at hr
  replace HP := Lib.hid (HP.out.below hq)
  replace HB := Lib.hid (bnext HB.out hq)
  have HA := Lib.hid hr
  clear hq hr
  have ofa : CM.Ok fa := by rw [hfa]; exact op.rs g
  have fac : CM.cons p fa = true := by rw [hfa]; exact IM.cons_rs _ _
  have fa9 : fa.length ≤ 1000 := by have := ofa.nine; omega
  clear hfa
  go_wp2_with fail
  refine (kPart _ p y w2 HP.out hp9).mono ?_
  rintro e w3 ⟨u3, g, rfl, hr, hq⟩
  obtain ⟨fb, hfb⟩ : ∃ z, z = CM.rs p g := ⟨_, rfl⟩
  rw [← hfb] at hr
  replace HP := Lib.hid (HP.out.below hq)
  replace HA := Lib.hid (HA.out.below hq)
  replace HB := Lib.hid (bnext HB.out hq)
  have HF := Lib.hid hr
  clear hq hr
  have ofb : CM.Ok fb := by rw [hfb]; exact op.rs g
  have fbc : CM.cons p fb = true := by rw [hfb]; exact IM.cons_rs _ _
  have fb9 : fb.length ≤ 1000 := by have := ofb.nine; omega
  clear hfb
  clear HP
  have gd : IM.Gd p (IM.all fa fb) := IM.Gd.all ofa ofb fbc
  have hag : CM.Agr fb fa := IM.agr_part op fbc fac
  go_wp2_with fail
  refine (H.build _ _ fa fb w3 HA.out HF.out ofa ofb).mono ?_
  rintro e w4 ⟨u4, rfl, hr, hq⟩
  replace HA := Lib.hid (HA.out.below hq)
  replace HF := Lib.hid (HF.out.below hq)
  replace HB := Lib.hid (bnext HB.out hq)
  have HG := Lib.hid hr
  clear hq hr
  go_wp2_with fail
  refine (rAll _ _ fa fb w4 HA.out HF.out ofa ofb hag).mono ?_
  rintro e w5 ⟨u5, rfl, hr, hq⟩
  have hr : RdLs RdF w5 u5 (IM.all fa fb) := hr.rd.imp (fun u x h => h.rd hq)
  replace HA := Lib.hid (HA.out.below hq)
  replace HF := Lib.hid (HF.out.below hq)
  replace HG := Lib.hid (HG.out.below hq)
  replace HB := Lib.hid (bnext HB.out hq)
  have HN := Lib.hid hr
  clear hq hr
  go_wp2_with fail
  refine (IM.isG gd HG.out HN.out).mono ?_
  rintro e w6 ⟨rfl, hq⟩
  replace HA := Lib.hid (HA.out.below hq)
  replace HF := Lib.hid (HF.out.below hq)
  replace HG := Lib.hid (HG.out.below hq)
  replace HN := Lib.hid (HN.out.below hq (fun _ _ z => z.below hq))
  replace HB := Lib.hid (bnext HB.out hq)
  clear hq 
  clear HN HG HA HF
  go_wp2_with fail
  refine (cAwake10 H w6).mono ?_
  rintro e wz ⟨rfl, hq⟩
  replace HB := Lib.hid (bnext HB.out hq)
  clear hq
  go_wp2
  go_ret
  exact ⟨rfl, HB.out⟩

end Go.Proofs.YtkgkhofkhjgnbaaGreat
