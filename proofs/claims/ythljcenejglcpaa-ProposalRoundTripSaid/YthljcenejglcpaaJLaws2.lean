/-
  The calls of the laws ProposalCompare and ProposalRoundTrip: each true. Conditions: what came in reads.
-/
import Derived.Deep.RegionHeld3
import Derived.Deep.CutRange
import Derived.Test.YthljcenejglcpaaKB
import Derived.Test.YthljcenejglcpaaKC
import Derived.Test.YthljcenejglcpaaKD
import Derived.Test.YthljcenejglcpaaJAwake
namespace Go.Proofs.Ythljcenejglcpaa
open Go.RowKit
open JM (Chg)

theorem boxes3 (w w0 w1 w2 : World) (a m b n c k : Int) (u v t : Value) (h0 : w.alloc (.cells #[.int .i64 a, .int .i64 m, u] 32) = w0) (h1 : w0.alloc (.cells #[.int .i64 b, .int .i64 n, v] 32) = w1) (h2 : w1.alloc (.cells #[.int .i64 c, .int .i64 k, t] 32) = w2) :
    PBox w2 w.heap.size a m u ∧ PBox w2 (w.heap.size + 1) b n v ∧ PBox w2 (w.heap.size + 1 + 1) c k t ∧ Below w.heap.size w w2 := by
  have hb0 : Below w.heap.size w w0 := by rw [← h0]; exact below_fresh _ _
  have hb1 : Below w0.heap.size w0 w1 := by rw [← h1]; exact below_fresh _ _
  have hb2 : Below w1.heap.size w1 w2 := by rw [← h2]; exact below_fresh _ _
  have hs0 : w0.heap.size = w.heap.size + 1 := by rw [← h0]; exact World.size_alloc _ _
  have hs1 : w1.heap.size = w0.heap.size + 1 := by rw [← h1]; exact World.size_alloc _ _
  have p0 : PBox w0 w.heap.size a m u := by rw [← h0]; exact PBox.fresh _ _ _ _
  have p1 : PBox w1 w0.heap.size b n v := by rw [← h1]; exact PBox.fresh _ _ _ _
  have p2 : PBox w2 w1.heap.size c k t := by rw [← h2]; exact PBox.fresh _ _ _ _
  rw [hs1, hs0] at p2
  rw [hs0] at p1
  exact ⟨(p0.below hb1).below hb2, p1.below hb2, p2, bnext (bnext hb0 hb1) hb2⟩

set_option maxRecDepth 100000 in
set_option maxHeartbeats 4000000 in
theorem lProposalCompare (a m : Int) (u : Value) (xs : List Chg) (b n : Int) (v : Value) (ys : List Chg) (c k : Int) (t : Value) (zs : List Chg) (w : World) (hx : RdC w u xs) (hy : RdC w v ys) (hz : RdC w t zs) :
    Calls Try.prog 5 #[pv a m u, pv b n v, pv c k t] w fun e w' => e = .returned (.bool true) ∧ Below w.heap.size w w' := by
  obtain ⟨ad, cp, rfl, _, _⟩ := hx.shape
  obtain ⟨bd, dp, rfl, _, _⟩ := hy.shape
  obtain ⟨td, tp, rfl, _, _⟩ := hz.shape
  clear hx hy hz
  generalize xs.length = xl
  generalize ys.length = yl
  generalize zs.length = zl
  obtain ⟨w0, hw0⟩ : ∃ w0, w.alloc (.cells #[.int .i64 a, .int .i64 m, .slice ad xl cp] 32) = w0 := ⟨_, rfl⟩
  obtain ⟨w1, hw1⟩ : ∃ w1, w0.alloc (.cells #[.int .i64 b, .int .i64 n, .slice bd yl dp] 32) = w1 := ⟨_, rfl⟩
  obtain ⟨w2, hw2⟩ : ∃ w2, w1.alloc (.cells #[.int .i64 c, .int .i64 k, .slice td zl tp] 32) = w2 := ⟨_, rfl⟩
  obtain ⟨hp0, hp1, hp2, hb⟩ := boxes3 w w0 w1 w2 a m b n c k _ _ _ hw0 hw1 hw2
  have HW0 := Lib.hid hw0
  have HW1 := Lib.hid hw1
  have HW2 := Lib.hid hw2
  have HB := Lib.hid hb
  have HP0 := Lib.hid hp0
  have HP1 := Lib.hid hp1
  have HP2 := Lib.hid hp2
  have hxr := JM.cmpP_range a m b n
  have hyr := JM.cmpP_range b n c k
  have hzr := JM.cmpP_range a m c k
  have hle := @JM.cmpP_le a m b n c k
  have hge := @JM.cmpP_ge a m b n c k
  have e1 := fun w => cCompare a m ad xl cp b n bd yl dp w
  have e2 := fun w => cCompare b n bd yl dp c k td zl tp w
  have e3 := fun w => cCompare a m ad xl cp c k td zl tp w
  have e4 := fun w => rCompare a m ad xl cp b n bd yl dp w
  have e5 := fun w => cCompare b n bd yl dp a m ad xl cp w
  rw [JM.cmpP_neg a m b n] at e5
  generalize JM.cmpP a m b n = X at hxr hle hge e1 e4 e5
  generalize JM.cmpP b n c k = Y at hyr hle hge e2
  generalize JM.cmpP a m c k = Z at hzr hle hge e3
  have c0 : ∀ p : Later w2, p.val.cell? ⟨w.heap.size, 0, none⟩ = some (.int .i64 a) := fun p => (HP0.out.below p.h).1
  have c1 : ∀ p : Later w2, p.val.cell? ⟨w.heap.size, 1, none⟩ = some (.int .i64 m) := fun p => (HP0.out.below p.h).2.1
  have c2 : ∀ p : Later w2, p.val.cell? ⟨w.heap.size, 2, none⟩ = some (.slice ad xl cp) := fun p => (HP0.out.below p.h).2.2
  have d0 : ∀ p : Later w2, p.val.cell? ⟨w.heap.size + 1, 0, none⟩ = some (.int .i64 b) := fun p => (HP1.out.below p.h).1
  have d1 : ∀ p : Later w2, p.val.cell? ⟨w.heap.size + 1, 1, none⟩ = some (.int .i64 n) := fun p => (HP1.out.below p.h).2.1
  have d2 : ∀ p : Later w2, p.val.cell? ⟨w.heap.size + 1, 2, none⟩ = some (.slice bd yl dp) := fun p => (HP1.out.below p.h).2.2
  have t0 : ∀ p : Later w2, p.val.cell? ⟨w.heap.size + 1 + 1, 0, none⟩ = some (.int .i64 c) := fun p => (HP2.out.below p.h).1
  have t1 : ∀ p : Later w2, p.val.cell? ⟨w.heap.size + 1 + 1, 1, none⟩ = some (.int .i64 k) := fun p => (HP2.out.below p.h).2.1
  have t2 : ∀ p : Later w2, p.val.cell? ⟨w.heap.size + 1 + 1, 2, none⟩ = some (.slice td zl tp) := fun p => (HP2.out.below p.h).2.2
  have C1 := Lib.hid (fun p : Later w2 => Calls.later (e1 p.val))
  have C2 := Lib.hid (fun p : Later w2 => Calls.later (e2 p.val))
  have C3 := Lib.hid (fun p : Later w2 => Calls.later (e3 p.val))
  have HE4 := Lib.hid e4
  have HE5 := Lib.hid e5
  have HA := Lib.hid cAwake
  have HXR := Lib.hid hxr
  have HYR := Lib.hid hyr
  have HZR := Lib.hid hzr
  have HLE := Lib.hid hle
  have HGE := Lib.hid hge
  clear hw0 hw1 hw2 hp0 hp1 hp2 hb e1 e2 e3 e4 e5 hxr hyr hzr hle hge
  go_enter Try.func5, Try.ntmps5
  go_wp2
  rw [HW0.out, HW1.out, HW2.out]
  go_cut [7, 8, 9] from 10 to 18 (fun p7 p8 p9 wx => p7 = .int .i64 X ∧ p8 = .int .i64 Y ∧ p9 = .int .i64 Z ∧ Hid (Below w2.heap.size w2 wx))
  case first =>
    refine wp_region_later (by kernel_rfl) (by kernel_rfl) ?_
    repeat (go_big_quiet_step (first | (go_at_call 15; with_reducible exact C1.out _) | (go_at_call 15; with_reducible exact C2.out _) | (go_at_call 15; with_reducible exact C3.out _)))
    refine wpQuiet_nil ?_
    rintro _ ⟨p, rfl⟩
    go_wp2
    go_meet
    exact ⟨rfl, rfl, rfl, p.h⟩
  case rest =>
    obtain ⟨rfl, rfl, rfl, hbx⟩ := hcut
    clear c0 c1 c2 d0 d1 d2 t0 t1 t2 C1 C2 C3 HW0 HW1 HW2
    have HB3 := Lib.hid (bnext HB.out hbx.out)
    have HP03 := Lib.hid (HP0.out.below hbx.out)
    have HP13 := Lib.hid (HP1.out.below hbx.out)
    clear HP0 HP1 HP2 hbx HB
    obtain ⟨p0, p1, p2⟩ := HP03.out
    obtain ⟨q0, q1, q2⟩ := HP13.out
    have hxr := HXR.out
    have hneg : IntKind.i64.wrap (-X) = -X := IntWalk.i64_in _ (by omega)
    have hne1 : (X != X) = false := by simp
    have hne2 : (-X != -X) = false := by simp
    go_wp2_with fail
    refine (HE4.out _).mono ?_
    rintro e w4 ⟨rfl, hb4⟩
    have HB4 := Lib.hid (bnext HB3.out hb4)
    have HP04 := Lib.hid (HP03.out.below hb4)
    have HP14 := Lib.hid (HP13.out.below hb4)
    clear p0 p1 p2 q0 q1 q2 HP03 HP13 HB3 hb4 HE4
    obtain ⟨p0, p1, p2⟩ := HP04.out
    obtain ⟨q0, q1, q2⟩ := HP14.out
    go_wp2_with fail
    refine (HE5.out _).mono ?_
    rintro e w5 ⟨rfl, hb5⟩
    have HB5 := Lib.hid (bnext HB4.out hb5)
    clear p0 p1 p2 q0 q1 q2 HP04 HP14 HB4 hb5 HE5
    have hyr := HYR.out
    have hzr := HZR.out
    have hle := HLE.out
    have hge := HGE.out
    clear HXR HYR HZR HLE HGE
    rcases hxr with rfl | rfl | rfl <;> rcases hyr with rfl | rfl | rfl <;> rcases hzr with rfl | rfl | rfl
    all_goals first
      | exact absurd (hle (by decide) (by decide)) (by decide)
      | exact absurd (hge (by decide) (by decide)) (by decide)
      | (clear hle hge hneg hne1 hne2
         go_wp2_with (go_at_call 12; refine (HA.out _).mono ?_; rintro e w6 ⟨rfl, hb6⟩)
         go_ret
         exact ⟨rfl, bnext HB5.out hb6⟩)

set_option maxRecDepth 100000 in
set_option maxHeartbeats 4000000 in
theorem lProposalRoundTrip (a n : Int) (u : Value) (cs : List Chg) (t : Value) (xs : List Int) (w : World) (hu : RdC w u cs) (ht : Rd w t xs) :
    Calls Try.prog 7 #[pv a n u, t] w fun e w' => e = .returned (.bool true) ∧ Below w.heap.size w w' := by
  obtain ⟨ad, cp, rfl, hcp, _⟩ := hu.shape
  obtain ⟨td, tc, rfl, htc⟩ := ht.shape
  obtain ⟨w0, hw0⟩ : ∃ w0, w.alloc (.cells #[.int .i64 a, .int .i64 n, .slice ad cs.length cp] 32) = w0 := ⟨_, rfl⟩
  have hb : Below w.heap.size w w0 := by rw [← hw0]; exact below_fresh _ _
  have hp : PBox w0 w.heap.size a n (.slice ad cs.length cp) := by rw [← hw0]; exact PBox.fresh _ _ _ _
  have HW0 := Lib.hid hw0
  have HB := Lib.hid hb
  have HP := Lib.hid hp
  have HU := Lib.hid (hu.below hb)
  have HT := Lib.hid (ht.below hb)
  have HA := Lib.hid cAwake
  obtain ⟨p0, p1, p2⟩ := hp
  clear hw0 hb hu ht
  by_cases h300 : 300 < xs.length
  · have hz : (300 : Int) < (xs.length : Int) := by omega
    go_enter Try.func7, Try.ntmps7
    go_wp2_with fail
    rw [HW0.out]
    go_wp2_with fail
    refine (HA.out _).mono ?_
    rintro e w2 ⟨rfl, hb2⟩
    go_wp2
    go_ret
    exact ⟨rfl, bnext HB.out hb2⟩
  have hz : ¬ (300 : Int) < (xs.length : Int) := by omega
  by_cases h100 : 100 < cs.length
  · have hz2 : (100 : Int) < (cs.length : Int) := by omega
    go_enter Try.func7, Try.ntmps7
    go_wp2_with fail
    rw [HW0.out]
    go_wp2_with fail
    refine (HA.out _).mono ?_
    rintro e w2 ⟨rfl, hb2⟩
    go_wp2
    go_ret
    exact ⟨rfl, bnext HB.out hb2⟩
  have hz2 : ¬ (100 : Int) < (cs.length : Int) := by omega
  have hv := rValidate a n (.slice ad cs.length cp) cs w0 HU.out
  by_cases he : JM.errP a n cs = 0
  · rw [he] at hv
    have HV := Lib.hid hv
    have HE := Lib.hid he
    have hsm := JM.errP_small he
    have hel : (JM.encP a n cs).length ≤ 450 := by
      have h1 := JM.encN_len _ (JM.head_small he)
      have h2 := JM.encCs_len cs hsm.2.2.2.2
      have h3 := hsm.2.2.1
      unfold JM.encP
      rw [List.length_append]
      simp only [List.length_cons, List.length_nil] at h1
      omega
    have HAP := Lib.hid (fun w1 (h : RdC w1 (.slice ad cs.length cp) cs) => cAppend (.slice none 0 0) [] a n _ cs w1 (Rd.nil w1) h he (by simp))
    have HRA := Lib.hid (fun w1 (h : RdC w1 (.slice ad cs.length cp) cs) => rAppendP (.slice none 0 0) [] a n _ cs w1 (Rd.nil w1) h he (by simp))
    have HDE := Lib.hid (fun v w1 (h : Rd w1 v (JM.encP a n cs ++ xs)) => (show Calls Try.prog 20 #[v] w1 fun e w' => ∃ sv, e = .returned (.tuple #[pv a n sv, .int .i64 ((JM.encP a n cs).length : Int), .int .i64 0]) ∧ RdC w' sv cs ∧ Below w1.heap.size w1 w' from by
      have := cDecode v _ w1 h
      rw [JM.decP_enc he xs] at this
      exact this))
    clear hv he h100 hsm
    generalize JM.encP a n cs = E at hel HAP HRA HDE
    simp only [List.nil_append] at HAP HRA
    have HEL := Lib.hid hel
    have HXL := Lib.hid h300
    clear hel h300
    go_enter Try.func7, Try.ntmps7
    go_wp2_with fail
    rw [HW0.out]
    go_wp2_with fail
    refine HV.out.mono ?_
    rintro e w1 ⟨rfl, hb1⟩
    have HB1 := Lib.hid (bnext HB.out hb1)
    have HP1 := Lib.hid (HP.out.below hb1)
    have HU1 := Lib.hid (HU.out.below hb1)
    have HT1 := Lib.hid (HT.out.below hb1)
    clear hb1 p0 p1 p2 HB HP HU HT HV
    obtain ⟨p0, p1, p2⟩ := HP1.out
    go_wp2_with fail
    refine (HAP.out _ HU1.out).mono ?_
    rintro e w2 ⟨v2, rfl, ho2, hb2⟩
    obtain ⟨a2, c2, rfl, hc2⟩ := ho2.rd.shape
    have hfe := below_empty w2
    have HFE := Lib.hid hfe
    have HB2 := Lib.hid (bnext HB1.out hb2)
    have HP2 := Lib.hid (HP1.out.below hb2)
    have HU2 := Lib.hid (HU1.out.below hb2)
    have HT2 := Lib.hid (HT1.out.below hb2)
    have HR2 := Lib.hid ho2.rd
    have HR2e := Lib.hid (ho2.rd.below hfe)
    have HOE := Lib.hid (own_empty w2)
    have HSZ := Lib.hid hfe.size
    clear ho2 hb2 p0 p1 p2 HB1 HP1 HU1 HT1 HAP hfe
    go_wp2_with (at_builtin; refine wp_appS rfl _ _ rfl rfl HOE.out rfl HR2e.out (by simp) (by have := HEL.out; omega) HSZ.out ?_)
    intro v3 w3 ho3 hb3
    have HB3 := Lib.hid (HFE.out.trans hb3)
    have HO3 := Lib.hid ho3
    have HT3 := Lib.hid (HT2.out.below HB3.out)
    have HSZ3 := Lib.hid HB3.out.size
    clear ho3 hb3 HOE HR2e HSZ HFE HT2
    go_wp2_with (at_builtin; refine wp_appS rfl _ _ rfl rfl HO3.out rfl HT3.out (by have := HEL.out; omega) (by have := HXL.out; omega) HSZ3.out ?_)
    intro v4 w4 ho4 hb4
    have HB4 := Lib.hid (HB3.out.trans hb4)
    have HR4 := Lib.hid ho4.rd
    clear ho4 hb4 HO3 HT3 HSZ3 HB3
    go_wp2_with fail
    refine (HDE.out _ _ HR4.out).mono ?_
    rintro e w5 ⟨sv, rfl, hrs, hb5⟩
    obtain ⟨a5, c5, rfl, _, _⟩ := hrs.shape
    have hbq := below_fresh w5 (.cells #[.int .i64 a, .int .i64 n, .slice a5 cs.length c5] 32)
    have HQ := Lib.hid (PBox.fresh w5 a n (.slice a5 cs.length c5))
    have HB27 := Lib.hid ((HB4.out.trans (hb5.mono HB4.out.size)).trans (hbq.mono (Nat.le_trans HB4.out.size hb5.size)))
    have HS7 := Lib.hid (hrs.below hbq)
    obtain ⟨w7, hw7⟩ : ∃ w7, w5.alloc (.cells #[.int .i64 a, .int .i64 n, .slice a5 cs.length c5] 32) = w7 := ⟨_, rfl⟩
    obtain ⟨qb, hqb⟩ : ∃ qb, w5.heap.size = qb := ⟨_, rfl⟩
    rw [hw7] at HS7 HB27
    rw [hw7, hqb] at HQ
    have HQ7 := Lib.hid HQ.out
    have HP7 := Lib.hid (HP2.out.below HB27.out)
    have HU7 := Lib.hid (HU2.out.below HB27.out)
    have HV7 := Lib.hid (HR2.out.below HB27.out)
    have HB7 := Lib.hid (bnext HB2.out HB27.out)
    have HW7 := Lib.hid hw7
    have HQB := Lib.hid hqb
    have HEQ := Lib.hid (fun w1 (h1 : RdC w1 (.slice ad cs.length cp) cs) (h2 : RdC w1 (.slice a5 cs.length c5) cs) => (show Calls Try.prog 18 #[pv a n (.slice ad cs.length cp), pv a n (.slice a5 cs.length c5)] w1 fun e w' => e = .returned (.bool true) ∧ Below w1.heap.size w1 w' from by
      have := rEqual a n _ cs a n _ cs w1 h1 h2
      rw [show eqP a n cs a n cs = true from decide_eq_true ⟨rfl, rfl, rfl⟩] at this
      exact this))
    clear hrs hb5 hbq HQ HB27 hw7 hqb HB2 HP2 HU2 HR2 HB4 HR4 HDE HEL HXL
    go_upto_region 5 with fail
    rw [HQB.out, HW7.out]
    go_cut [4] from 36 to 59 (fun p4 wx => p4 = .bool true ∧ Hid (Below w7.heap.size w7 wx))
    case first =>
      have hLL : ((E.length : Int) == (E.length : Int)) = true := by simp
      have hSS : ((strOfNums E).toList == (strOfNums E).toList) = true := by simp
      refine wp_region_held_drew (S := fun w' => Below w7.heap.size w7 w') (by kernel_rfl) ((Below.refl _ _).drew) (fun ha => ?_)
      replace ha : Below w7.heap.size w7 w7.drew := (Below.refl _ _).drew
      generalize w7.drew = wa at ha ⊢
      refine takeH (i := 0) (v := ?_) rfl (by kernel_rfl) (by kernel_rfl) (by kernel_rfl) (fun _ _ _ h => h) (Or.inl ⟨by rfl, ?_⟩) (by assumption) ?_
      rotate_left
      · (intro w hSw; (try dsimp only at hSw); go_simp; first | done | with_reducible rfl)
      (try simp only [Act.put, List.setIfInBounds_toArray, List.set_cons_zero, List.set_cons_succ])
      refine takeH (i := 1) (v := ?_) rfl (by kernel_rfl) (by kernel_rfl) (by kernel_rfl) (fun _ _ _ h => h) (Or.inl ⟨by rfl, ?_⟩) (by assumption) ?_
      rotate_left
      · (intro w hSw; (try dsimp only at hSw); have hst := Rd.str (HV7.out.below hSw); go_simp; first | done | with_reducible rfl)
      (try simp only [Act.put, List.setIfInBounds_toArray, List.set_cons_zero, List.set_cons_succ])
      refine takeH (i := 2) (v := ?_) rfl (by kernel_rfl) (by kernel_rfl) (by kernel_rfl) (fun _ _ _ h => h) (Or.inl ⟨by rfl, ?_⟩) (by assumption) ?_
      rotate_left
      · (intro w hSw; (try dsimp only at hSw); obtain ⟨p0, p1, p2⟩ := HP7.out.below hSw; go_simp; first | done | with_reducible rfl)
      (try simp only [Act.put, List.setIfInBounds_toArray, List.set_cons_zero, List.set_cons_succ])
      refine wpAnyH_ready (rs := [3]) (by kernel_rfl) (by simp) ?_
      refine stepH rfl (fun K hK => ?_) AllReadyH.nil
      go_simp
      refine (HRA.out wa (HU7.out.below ha)).mono ?_
      rintro e wb ⟨vb, rfl, hrb, hbb⟩
      obtain ⟨ab, cb, rfl, _⟩ := hrb.shape
      have hb := bnext ha hbb
      go_wp2_with fail
      refine hK.out _ _ (hb) (fun _ => ?_)
      clear hK K
      (try simp only [Act.put, List.setIfInBounds_toArray, List.set_cons_zero, List.set_cons_succ])
      refine wpAnyH_ready (rs := [4]) (by kernel_rfl) (by simp) ?_
      refine stepH rfl (fun K hK => ?_) AllReadyH.nil
      have hst := Rd.str hrb
      go_simp
      refine hK.out _ _ (hb) (fun _ => ?_)
      clear hK K
      (try simp only [Act.put, List.setIfInBounds_toArray, List.set_cons_zero, List.set_cons_succ])
      refine takeH (i := 5) (v := ?_) rfl (by kernel_rfl) (by kernel_rfl) (by kernel_rfl) (fun _ _ _ h => h) (Or.inl ⟨by rfl, ?_⟩) (by assumption) ?_
      rotate_left
      · (intro w hSw; (try dsimp only at hSw); go_simp; first | done | with_reducible rfl)
      (try simp only [Act.put, List.setIfInBounds_toArray, List.set_cons_zero, List.set_cons_succ])
      refine takeH (i := 6) (v := ?_) rfl (by kernel_rfl) (by kernel_rfl) (by kernel_rfl) (fun _ _ _ h => h) (Or.inl ⟨by rfl, ?_⟩) (by assumption) ?_
      rotate_left
      · (intro w hSw; (try dsimp only at hSw); go_simp; first | done | with_reducible rfl)
      (try simp only [Act.put, List.setIfInBounds_toArray, List.set_cons_zero, List.set_cons_succ])
      refine takeH (i := 7) (v := ?_) rfl (by kernel_rfl) (by kernel_rfl) (by kernel_rfl) (fun _ _ _ h => h) (Or.inl ⟨by rfl, ?_⟩) (by assumption) ?_
      rotate_left
      · (intro w hSw; (try dsimp only at hSw); go_simp; first | done | with_reducible rfl)
      (try simp only [Act.put, List.setIfInBounds_toArray, List.set_cons_zero, List.set_cons_succ])
      refine takeH (i := 8) (v := ?_) rfl (by kernel_rfl) (by kernel_rfl) (by kernel_rfl) (fun _ _ _ h => h) (Or.inl ⟨by rfl, ?_⟩) (by assumption) ?_
      rotate_left
      · (intro w hSw; (try dsimp only at hSw); go_simp; first | done | with_reducible rfl)
      (try simp only [Act.put, List.setIfInBounds_toArray, List.set_cons_zero, List.set_cons_succ])
      refine takeH (i := 9) (v := ?_) rfl (by kernel_rfl) (by kernel_rfl) (by kernel_rfl) (fun _ _ _ h => h) (Or.inl ⟨by rfl, ?_⟩) (by assumption) ?_
      rotate_left
      · (intro w hSw; (try dsimp only at hSw); go_simp; first | done | with_reducible rfl)
      (try simp only [Act.put, List.setIfInBounds_toArray, List.set_cons_zero, List.set_cons_succ])
      refine takeH (i := 10) (v := ?_) rfl (by kernel_rfl) (by kernel_rfl) (by kernel_rfl) (fun _ _ _ h => h) (Or.inl ⟨by rfl, ?_⟩) (by assumption) ?_
      rotate_left
      · (intro w hSw; (try dsimp only at hSw); go_simp; first | done | with_reducible rfl)
      (try simp only [Act.put, List.setIfInBounds_toArray, List.set_cons_zero, List.set_cons_succ])
      refine takeH (i := 11) (v := ?_) rfl (by kernel_rfl) (by kernel_rfl) (by kernel_rfl) (fun _ _ _ h => h) (Or.inl ⟨by rfl, ?_⟩) (by assumption) ?_
      rotate_left
      · (intro w hSw; (try dsimp only at hSw); go_simp; first | done | with_reducible rfl)
      (try simp only [Act.put, List.setIfInBounds_toArray, List.set_cons_zero, List.set_cons_succ])
      refine takeH (i := 12) (v := ?_) rfl (by kernel_rfl) (by kernel_rfl) (by kernel_rfl) (fun _ _ _ h => h) (Or.inl ⟨by rfl, ?_⟩) (by assumption) ?_
      rotate_left
      · (intro w hSw; (try dsimp only at hSw); go_simp; first | done | with_reducible rfl)
      (try simp only [Act.put, List.setIfInBounds_toArray, List.set_cons_zero, List.set_cons_succ])
      refine takeH (i := 13) (v := ?_) rfl (by kernel_rfl) (by kernel_rfl) (by kernel_rfl) (fun _ _ _ h => h) (Or.inl ⟨by rfl, ?_⟩) (by assumption) ?_
      rotate_left
      · (intro w hSw; (try dsimp only at hSw); go_simp; first | done | with_reducible rfl)
      (try simp only [Act.put, List.setIfInBounds_toArray, List.set_cons_zero, List.set_cons_succ])
      refine takeH (i := 14) (v := ?_) rfl (by kernel_rfl) (by kernel_rfl) (by kernel_rfl) (fun _ _ _ h => h) (Or.inl ⟨by rfl, ?_⟩) (by assumption) ?_
      rotate_left
      · (intro w hSw; (try dsimp only at hSw); go_simp; first | done | with_reducible rfl)
      (try simp only [Act.put, List.setIfInBounds_toArray, List.set_cons_zero, List.set_cons_succ])
      refine takeH (i := 15) (v := ?_) rfl (by kernel_rfl) (by kernel_rfl) (by kernel_rfl) (fun _ _ _ h => h) (Or.inl ⟨by rfl, ?_⟩) (by assumption) ?_
      rotate_left
      · (intro w hSw; (try dsimp only at hSw); go_simp; first | done | with_reducible rfl)
      (try simp only [Act.put, List.setIfInBounds_toArray, List.set_cons_zero, List.set_cons_succ])
      refine takeH (i := 16) (v := ?_) rfl (by kernel_rfl) (by kernel_rfl) (by kernel_rfl) (fun _ _ _ h => h) (Or.inl ⟨by rfl, ?_⟩) (by assumption) ?_
      rotate_left
      · (intro w hSw; (try dsimp only at hSw); go_simp; first | done | with_reducible rfl)
      (try simp only [Act.put, List.setIfInBounds_toArray, List.set_cons_zero, List.set_cons_succ])
      refine takeH (i := 17) (v := ?_) rfl (by kernel_rfl) (by kernel_rfl) (by kernel_rfl) (fun _ _ _ h => h) (Or.inl ⟨by rfl, ?_⟩) (by assumption) ?_
      rotate_left
      · (intro w hSw; (try dsimp only at hSw); obtain ⟨p0, p1, p2⟩ := HP7.out.below hSw; go_simp; first | done | with_reducible rfl)
      (try simp only [Act.put, List.setIfInBounds_toArray, List.set_cons_zero, List.set_cons_succ])
      refine takeH (i := 18) (v := ?_) rfl (by kernel_rfl) (by kernel_rfl) (by kernel_rfl) (fun _ _ _ h => h) (Or.inl ⟨by rfl, ?_⟩) (by assumption) ?_
      rotate_left
      · (intro w hSw; (try dsimp only at hSw); obtain ⟨q0, q1, q2⟩ := HQ7.out.below hSw; go_simp; first | done | with_reducible rfl)
      (try simp only [Act.put, List.setIfInBounds_toArray, List.set_cons_zero, List.set_cons_succ])
      refine wpAnyH_ready (rs := [19]) (by kernel_rfl) (by simp) ?_
      refine stepH rfl (fun K hK => ?_) AllReadyH.nil
      go_simp
      refine (HEQ.out wb (HU7.out.below hb) (HS7.out.below hb)).mono ?_
      rintro e wc ⟨rfl, hbc⟩
      have hc := bnext hb hbc
      go_wp2_with fail
      refine hK.out _ _ (hc) (fun _ => ?_)
      clear hK K
      (try simp only [Act.put, List.setIfInBounds_toArray, List.set_cons_zero, List.set_cons_succ])
      refine takeH (i := 20) (v := ?_) rfl (by kernel_rfl) (by kernel_rfl) (by kernel_rfl) (fun _ _ _ h => h) (Or.inl ⟨by rfl, ?_⟩) (by assumption) ?_
      rotate_left
      · (intro w hSw; (try dsimp only at hSw); go_simp; first | done | with_reducible rfl)
      (try simp only [Act.put, List.setIfInBounds_toArray, List.set_cons_zero, List.set_cons_succ])
      refine takeH (i := 21) (v := ?_) rfl (by kernel_rfl) (by kernel_rfl) (by kernel_rfl) (fun _ _ _ h => h) (Or.inl ⟨by rfl, ?_⟩) (by assumption) ?_
      rotate_left
      · (intro w hSw; (try dsimp only at hSw); go_simp; first | done | with_reducible rfl)
      (try simp only [Act.put, List.setIfInBounds_toArray, List.set_cons_zero, List.set_cons_succ])
      refine wpAnyH_ready (rs := [22]) (by kernel_rfl) (by simp) ?_
      refine stepH rfl (fun K hK => ?_) AllReadyH.nil
      go_simp
      refine (HA.out wc).mono ?_
      rintro e wd ⟨rfl, hbd⟩
      have hd := bnext hc hbd
      go_wp2_with fail
      refine hK.out _ _ (hd) (fun _ => ?_)
      clear hK K
      (try simp only [Act.put, List.setIfInBounds_toArray, List.set_cons_zero, List.set_cons_succ])
      refine takeH (i := 23) (v := ?_) rfl (by kernel_rfl) (by kernel_rfl) (by kernel_rfl) (fun _ _ _ h => h) (Or.inl ⟨by rfl, ?_⟩) (by assumption) ?_
      rotate_left
      · (intro w hSw; (try dsimp only at hSw); go_simp; first | done | with_reducible rfl)
      (try simp only [Act.put, List.setIfInBounds_toArray, List.set_cons_zero, List.set_cons_succ])
      refine takeH (i := 24) (v := ?_) rfl (by kernel_rfl) (by kernel_rfl) (by kernel_rfl) (fun _ _ _ h => h) (Or.inl ⟨by rfl, ?_⟩) (by assumption) ?_
      rotate_left
      · (intro w hSw; (try dsimp only at hSw); go_simp; first | done | with_reducible rfl)
      (try simp only [Act.put, List.setIfInBounds_toArray, List.set_cons_zero, List.set_cons_succ])
      refine wpAnyH_done (by kernel_rfl) ?_ _
      go_wp2
      go_meet
      exact ⟨rfl, hd⟩
    case rest =>
      obtain ⟨rfl, hbx⟩ := hcut
      go_wp2
      go_ret
      exact ⟨rfl, bnext HB7.out hbx.out⟩
  · have hne : (JM.errP a n cs != 0) = true := bne_t he
    generalize JM.errP a n cs = er at hv hne
    have HV := Lib.hid hv
    clear hv he
    go_enter Try.func7, Try.ntmps7
    go_wp2_with fail
    rw [HW0.out]
    go_wp2_with fail
    refine HV.out.mono ?_
    rintro e w1 ⟨rfl, hb1⟩
    have HB1 := Lib.hid (bnext HB.out hb1)
    clear hb1 p0 p1 p2
    go_wp2_with fail
    refine (HA.out _).mono ?_
    rintro e w2 ⟨rfl, hb2⟩
    go_wp2
    go_ret
    exact ⟨rfl, bnext HB1.out hb2⟩

end Go.Proofs.Ythljcenejglcpaa
