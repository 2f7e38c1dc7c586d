/-
  The laws IntervalAll, IntervalMembers: each returns true. Conditions: what came in reads.
-/
import Derived.Test.YtejafpbobgkibaaGreatIAwk
import Derived.Test.YtejafpbobgkibaaGreatIKv
namespace Go.Proofs.YtejafpbobgkibaaGreat
open Go.RowKit Go.Joins Go.Shelf
open JM (Chg)
open CM (Fp)
open VM (Ent)

theorem IM.iv_len (fa fb : List Fp) : (IM.all fa fb).length = (IM.iv fa fb).length := by unfold IM.all; rw [List.length_map]
theorem iTwo (w : World) (a b : Option Addr) (la ca lb cb : Nat) (fa fb : List Fp) (h1 : RdF w (.slice a la ca) fa) (h2 : RdF w (.slice b lb cb) fb) :
    RdLs RdF (w.alloc (.cells #[.slice a la ca, .slice b lb cb] 23)) (.slice (some ⟨w.heap.size, 0, none⟩) 2 2) [fa, fb] := by
  have hb := below_fresh w (.cells #[.slice a la ca, .slice b lb cb] 23)
  refine ⟨[((a, la, ca), fa), ((b, lb, cb), fb)], (ownG_fresh hlL 23 w [((a, la, ca), fa), ((b, lb, cb), fb)] (by unfold maxLen; simp)).rd, ?_, rfl⟩
  intro p hp
  simp only [List.mem_cons, List.mem_nil_iff, or_false] at hp
  rcases hp with rfl | rfl
  · exact h1.below hb
  · exact h2.below hb

set_option maxRecDepth 100000 in
set_option maxHeartbeats 4000000 in
theorem lIntervalAll (va vb vc : Value) (fa fb fc : List Fp) (w : World) (h1 : RdF w va fa) (h2 : RdF w vb fb) (h3 : RdF w vc fc) :
    Calls Tryz.prog 3 #[va, vb, vc] w fun e w' => e = .returned (.bool true) ∧ Below w.heap.size w w' := by
  obtain ⟨a, ca, rfl, _, _⟩ := h1.shape
  obtain ⟨b, cb, rfl, _, _⟩ := h2.shape
  obtain ⟨c, cc, rfl, _, _⟩ := h3.shape
  have H3 := iThree w a b c _ ca _ cb _ cc fa fb fc h1 h2 h3
  have hb0 := below_fresh w (.cells #[.slice a fa.length ca, .slice b fb.length cb, .slice c fc.length cc] 23)
  obtain ⟨w1, hw1⟩ : ∃ w1, w.alloc (.cells #[.slice a fa.length ca, .slice b fb.length cb, .slice c fc.length cc] 23) = w1 := ⟨_, rfl⟩
  rw [hw1] at H3 hb0
  have HV := Lib.hid (kValidL _ [fa, fb, fc] w1 H3)
  have HF := Lib.hid (And.intro h1 (And.intro h2 h3))
  have HB := Lib.hid hb0
  have HW := Lib.hid hw1
  have HAW := Lib.hid (fun w => cAwake9 w)
  clear H3 hb0 hw1 h1 h2 h3
  generalize fa.length = la at *
  generalize fb.length = lb at *
  generalize fc.length = lc at *
  by_cases l1 : 30 < la
  · have q1 : (30 : Int) < (la : Int) := by omega
    clear HV HW HF HB
    go_enter Tryz.func3, Tryz.ntmps3
    go_wp2_with fail
    refine (HAW.out w).mono ?_
    rintro e w2 ⟨rfl, hb2⟩
    go_wp2
    go_ret
    exact ⟨rfl, hb2⟩
  have q1 : ¬ (30 : Int) < (la : Int) := by omega
  by_cases l2 : 30 < lb
  · have q2 : (30 : Int) < (lb : Int) := by omega
    clear HV HW HF HB
    go_enter Tryz.func3, Tryz.ntmps3
    go_wp2_with fail
    refine (HAW.out w).mono ?_
    rintro e w2 ⟨rfl, hb2⟩
    go_wp2
    go_ret
    exact ⟨rfl, hb2⟩
  have q2 : ¬ (30 : Int) < (lb : Int) := by omega
  by_cases l3 : 30 < lc
  · have q3 : (30 : Int) < (lc : Int) := by omega
    clear HV HW HF HB
    go_enter Tryz.func3, Tryz.ntmps3
    go_wp2_with fail
    refine (HAW.out w).mono ?_
    rintro e w2 ⟨rfl, hb2⟩
    go_wp2
    go_ret
    exact ⟨rfl, hb2⟩
  have q3 : ¬ (30 : Int) < (lc : Int) := by omega
  go_enter Tryz.func3, Tryz.ntmps3
  go_wp2_with fail
  rw [HW.out]
  refine HV.out.mono ?_
  rintro e w2 ⟨B, rfl, hB, hb2⟩
  have HB2 := Lib.hid (bnext HB.out hb2)
  have HK := Lib.hid hB
  clear hB hb2 HV HW HB q1 q2 q3 l1 l2 l3
  cases B
  · go_wp2_with fail
    refine (HAW.out w2).mono ?_
    rintro e w3 ⟨rfl, hb3⟩
    go_wp2
    go_ret
    exact ⟨rfl, bnext HB2.out hb3⟩
  obtain ⟨hok, hag⟩ := HK.out rfl
  have o1 : CM.Ok fa := hok fa (by simp)
  have o2 : CM.Ok fb := hok fb (by simp)
  have o3 : CM.Ok fc := hok fc (by simp)
  have g10 : CM.Agr fb fa := hag 1 0 fb fa rfl rfl (by decide)
  have g20 : CM.Agr fc fa := hag 2 0 fc fa rfl rfl (by decide)
  have g21 : CM.Agr fc fb := hag 2 1 fc fb rfl rfl (by decide)
  obtain ⟨h1, h2, h3⟩ := HF.out
  have HRA := Lib.hid (fun w' (hb : Below w.heap.size w w') => rAll _ _ fa fb w' (h1.below hb) (h2.below hb) o1 o2 g10)
  have HCA := Lib.hid (fun w' (hb : Below w.heap.size w w') => cAll _ _ fa fb w' (h1.below hb) (h2.below hb) o1 o2)
  have HCN := Lib.hid (fun w' (hb : Below w.heap.size w w') => cCount _ _ fa fb w' (h1.below hb) (h2.below hb) o1 o2)
  have HWI := Lib.hid (fun w' (hb : Below w.heap.size w w') => cWithin _ _ _ fa fb fc w' (h1.below hb) (h2.below hb) (h3.below hb) o1 o2 o3)
  have hwr := fun w' (hb : Below w.heap.size w w') => rWithin _ _ _ fa fb fc w' (h1.below hb) (h2.below hb) (h3.below hb)
  rw [CM.conk_cons g20, CM.conk_cons g21.symm] at hwr
  have HWR := Lib.hid hwr
  have HSM := Lib.hid (fun u v w' (hx : RdLs RdF w' u (IM.all fa fb)) (hy : RdLs RdF w' v (IM.all fa fb)) => lSame9 u v _ _ w' hx hy rfl)
  rw [← IM.iv_len] at HCN
  clear hok hag o1 o2 o3 g10 g20 g21 h1 h2 h3 hwr HK HF
  generalize (CM.cons fc fa && CM.cons fb fc) = W1 at *
  generalize IM.all fa fb = L at *
  have he : ((L.length : Int) == (L.length : Int)) = true := beq_t rfl
  have he2 : (W1 == W1) = true := by cases W1 <;> rfl
  have HEL := Lib.hid he
  have HEW := Lib.hid he2
  clear he he2
  go_wp2_with fail
  refine (HRA.out w2 HB2.out).mono ?_
  rintro e w3 ⟨v3, rfl, hr3, hb3⟩
  have hr3 := hr3.rd.imp (fun u x h => h.rd hb3)
  obtain ⟨a3, c3, hv3, _, _⟩ := hr3.shape
  have HR3 := Lib.hid hr3
  have HB3 := Lib.hid (bnext HB2.out hb3)
  subst hv3
  clear hr3 hb3 HRA HB2
  go_wp2_with fail
  refine (HCA.out w3 HB3.out).mono ?_
  rintro e w4 ⟨v4, rfl, hr4, hb4⟩
  have hr4 := hr4.rd.imp (fun u x h => h.rd)
  obtain ⟨a4, c4, hv4, _, _⟩ := hr4.shape
  have HS := Lib.hid (HSM.out _ _ w4 hr4 (HR3.out.below hb4 (fun u x h => h.below hb4)))
  have HB4 := Lib.hid (bnext HB3.out hb4)
  subst hv4
  clear hr4 hb4 HCA HB3 HSM HR3
  generalize L.length = n at *
  go_wp2_with fail
  refine HS.out.mono ?_
  rintro e w5 ⟨rfl, hb5⟩
  have HB5 := Lib.hid (bnext HB4.out hb5)
  clear hb5 HS HB4
  go_wp2_with fail
  refine (HCN.out w5 HB5.out).mono ?_
  rintro e w6 ⟨rfl, hb6⟩
  have HB6 := Lib.hid (bnext HB5.out hb6)
  have he := HEL.out
  clear hb6 HCN HB5
  go_wp2_with fail
  refine (HWI.out w6 HB6.out).mono ?_
  rintro e w7 ⟨rfl, hb7⟩
  have HB7 := Lib.hid (bnext HB6.out hb7)
  clear hb7 HWI HB6 he
  go_wp2_with fail
  refine (HWR.out w7 HB7.out).mono ?_
  rintro e w8 ⟨rfl, hb8⟩
  have HB8 := Lib.hid (bnext HB7.out hb8)
  have he2 := HEW.out
  clear hb8 HWR HB7
  go_wp2_with fail
  refine (HAW.out w8).mono ?_
  rintro e w9 ⟨rfl, hb9⟩
  go_wp2
  go_ret
  exact ⟨rfl, bnext HB8.out hb9⟩

end Go.Proofs.YtejafpbobgkibaaGreat
