/-
  The call of the reference's Tolerance. Conditions: the members read and the view is valid.
-/
import Derived.Deep.RegionLaw
import Derived.Test.YtbbgjckiooejhaaQSub
namespace Go.Proofs.Ytbbgjckiooejhaa
open Go.RowKit
open QM (Mem)

/-- Whether the members whose bits are in m leave no quorum behind. -/
def nq (k c f : Int) (ms : List Mem) (m : Nat) : Bool := !QM.isQ k c f ms (fun x => decide (x ∈ sbs ms (2 ^ ms.length - 1 - m) ms.length))
def TolR (k c f : Int) (ms : List Mem) (m t : Nat) : Prop :=
  (t = ms.length + 1 ∨ ∃ m', m' < m ∧ nq k c f ms m' = true ∧ t = bc ms.length m') ∧ ∀ m', m' < m → nq k c f ms m' = true → t ≤ bc ms.length m'
theorem nq_iff {k c f : Int} {ms : List Mem} (hv : QM.Val 0 ms) {p : Int → Bool} {m : Nat} (hm : m < 2 ^ ms.length) (h : ∀ i, i < ms.length → p (ms.getD i (0, 0)).1 = m.testBit i) :
    nq k c f ms m = !QM.isQ k c f ms (fun x => !p x) := by
  unfold nq
  congr 1
  refine isQ_places fun i hi => ?_
  rw [sbs_mem hv _ hi, h i hi, Nat.sub_sub, Nat.add_comm 1 m, Nat.testBit_two_pow_sub_succ hm]
  simp [hi]
theorem TolR.tol {k c f : Int} {ms : List Mem} (hr : QM.errR k c f = 0) (hv : QM.Val 0 ms) {t : Nat} (h : TolR k c f ms (2 ^ ms.length) t) : QM.Tol k c f ms (t : Int) := by
  have hall : ∀ p : Int → Bool, QM.isQ k c f ms (fun x => !p x) = false → t ≤ QM.cnt p ms := fun p hp => by
    obtain ⟨m, hm, hb⟩ := mask_exists (fun i => p (ms.getD i (0, 0)).1) ms.length
    have hb' : ∀ i, i < ms.length → p (ms.getD i (0, 0)).1 = m.testBit i := fun i hi => (hb i hi).symm
    rw [cnt_bits hb']
    exact h.2 m hm (by rw [nq_iff hv hm hb', hp]; rfl)
  refine ⟨?_, fun p hp => by have := hall p hp; omega⟩
  rcases h.1 with h1 | ⟨m, hm, h1, h2⟩
  · have := hall (fun _ => true) (QM.isQ_not_all hr hv)
    rw [QM.cnt_all] at this
    omega
  · obtain ⟨p, hp⟩ : ∃ p : Int → Bool, ∀ i, i < ms.length → p (ms.getD i (0, 0)).1 = m.testBit i := ⟨fun x => decide (x ∈ sbs ms m ms.length), fun i hi => sbs_mem hv m hi⟩
    refine ⟨p, ?_, by rw [cnt_bits hp, h2]⟩
    rw [nq_iff hv hm hp] at h1
    simpa using h1

set_option maxRecDepth 100000 in
set_option maxHeartbeats 4000000 in
theorem rTolerance (sv : Value) (k c f : Int) (ms : List Mem) (w : World) (hr : RdM w sv ms) (he : QM.errV k c f ms = 0) :
    Calls Try.prog 28 #[vw sv k c f] w fun e w' => ∃ t : Int, e = .returned (.int .i64 (t - 1)) ∧ QM.Tol k c f ms t ∧ Below w.heap.size w w' := by
  obtain ⟨her, hval⟩ := QM.errV_zero.1 he
  have hml := hval.length (Int.le_refl 0) (by decide)
  have hv := VBox.fresh w sv k c f
  have hB := below_fresh w (.cells #[sv, .int .i64 k, .int .i64 c, .int .i64 f] 26)
  have h0 := hr.below hB
  obtain ⟨ad, cp, rfl, hcp, hl⟩ := hr.shape
  have HFIN := Lib.hid (fun t (h : TolR k c f ms (2 ^ ms.length) t) => h.tol her hval)
  have HSB := Lib.hid (fun m w hw => rSubset (.slice ad ms.length cp) k c f ms m w hw (by omega))
  have HIS := Lib.hid (fun u xs w (hw : RdM w (.slice ad ms.length cp) ms) (hu : RdI w u xs) => rIsQuorum (.slice ad ms.length cp) u k c f ms xs w hw hu he)
  have HBI := Lib.hid (fun m w (hm : m < 2 ^ ms.length) => rBits ms.length m w hm (by omega))
  generalize hw0 : w.alloc (.cells #[.slice ad ms.length cp, .int .i64 k, .int .i64 c, .int .i64 f] 26) = w0 at h0 hv hB
  have HW0 := Lib.hid hw0
  have H := Lib.hid h0
  have HV := Lib.hid hv
  have HB := Lib.hid hB
  obtain ⟨v0, v1, v2, v3, v4⟩ := HV.out
  clear hw0 h0 hv hB hr he her hval
  obtain ⟨P, hP⟩ : ∃ P, P = 2 ^ ms.length := ⟨_, rfl⟩
  have hPl : P ≤ 4096 := by rw [hP]; exact Nat.le_trans (Nat.pow_le_pow_right (by decide) (show ms.length ≤ 12 by omega)) (by decide)
  have hP1 : 1 ≤ P := by rw [hP]; exact Nat.two_pow_pos _
  have hw : IntKind.i64.wrap ((2 : Int) ^ ms.length) = (P : Int) := by
    rw [hP, show (2 : Int) ^ ms.length = ((2 ^ ms.length : Nat) : Int) by push_cast; rfl, ← hP]
    exact IntWalk.i64_in _ (by omega)
  have hn64 : (ms.length : Int) ≤ 12 := by omega
  have HP := Lib.hid hP
  rw [← hP] at HFIN HBI
  clear hP
  go_enter Try.func28, Try.ntmps28
  go_wp2
  rw [HW0.out]
  go_loopw [4, 5] (fun u i wr => ∃ (m t : Nat), m ≤ P ∧ t ≤ 13 ∧ i = .int .i64 m ∧ u = .int .i64 t ∧ Hid (TolR k c f ms m t) ∧ Hid (Below w0.heap.size w0 wr)) (fun _ i _ => P - (intOf i).toNat)
  case atStart => exact ⟨0, ms.length + 1, Nat.zero_le _, by omega, rfl, by go_num, ⟨.inl rfl, fun m' h => absurd h (Nat.not_lt_zero m')⟩, Below.refl _ _⟩
  case round =>
    obtain ⟨m, t, hm, ht, rfl, rfl, htl, hb⟩ := hrel
    by_cases hlt : m < P
    · have hq : (m : Int) < (P : Int) := by omega
      have hsub1 : IntKind.i64.wrap ((P : Int) - 1) = (P : Int) - 1 := IntWalk.i64_in _ (by omega)
      have hsub2 : (P : Int) - 1 - (m : Int) = ((P - 1 - m : Nat) : Int) := by omega
      have hsub3 : IntKind.i64.wrap ((P : Int) - 1 - (m : Int)) = ((P - 1 - m : Nat) : Int) := by rw [hsub2]; exact IntWalk.i64_in _ (by omega)
      have hcs := fun w hw => HSB.out (P - 1 - m) w hw
      obtain ⟨q, hqe⟩ : ∃ q, q = QM.isQ k c f ms (fun x => decide (x ∈ sbs ms (P - 1 - m) ms.length)) := ⟨_, rfl⟩
      have hci := fun u w hw hu => HIS.out u (sbs ms (P - 1 - m) ms.length) w hw hu
      rw [← hqe] at hci
      have HQE := Lib.hid (show nq k c f ms m = !q by unfold nq; rw [← HP.out, hqe])
      clear hqe
      generalize sbs ms (P - 1 - m) ms.length = xs at hcs hci
      have HCS := Lib.hid hcs
      have HCI := Lib.hid hci
      clear hcs hci hsub2
      have HLONG := Lib.hid (show IntKind.i64.wrap (IntKind.i64.wrap (IntKind.i64.wrap (2 ^ min (IntKind.u64.wrap (ms.length : Int)).toNat 64) - 1) - (m : Int)) = ((P - 1 - m : Nat) : Int) by
        have hu : IntKind.u64.wrap (ms.length : Int) = (ms.length : Int) := IntWalk.u64_in _ (by omega)
        rw [hu, Int.toNat_natCast, Nat.min_eq_left (by omega), hw, hsub1, hsub3])
      generalize P - 1 - m = M at HLONG HCS
      clear hsub1 hsub3
      have hvx := HV.out.below hb.out
      obtain ⟨z0, z1, z2, z3, z4⟩ := (show VBox wr.drew w.heap.size (.slice ad ms.length cp) k c f from hvx)
      have HRW := Lib.hid (show RdM wr.drew (.slice ad ms.length cp) ms from H.out.below hb.out.drew)
      have HVW := Lib.hid (show VBox wr.drew w.heap.size (.slice ad ms.length cp) k c f from hvx)
      clear hvx
      go_wp2
      go_region_law (first
        | (go_simp; go_at_call 41; rw [HLONG.out]; refine (HCS.out wr.drew HRW.out).mono ?_; rintro e w3 ⟨v3, rfl, ho3, hb3⟩; obtain ⟨a3, c3, rfl, _, _⟩ := ho3.rd.shape; obtain ⟨n0, n1, n2, n3, n4⟩ := HVW.out.below hb3)
        | (go_simp; go_at_call 19; refine (HCI.out _ w3 (HRW.out.below hb3) ho3.rd).mono ?_; rintro e w4 ⟨rfl, hb4⟩))
      all_goals
        have HB4 := Lib.hid (bnext (bnext hb.out.drew hb3) hb4)
        clear hb3 hb4 ho3 n0 n1 n2 n3 n4 z0 z1 z2 z3 z4 HRW HVW HLONG HCS HCI hb
        cases q
        · have hbi := HBI.out m w4 hlt
          have hbl := bc_le ms.length m
          have HN := Lib.hid (show ∀ u : Nat, u ≤ bc ms.length m → u ≤ t → (u = bc ms.length m ∨ u = t) → TolR k c f ms (m + 1) u from fun u h1 h2 h3 => by
            refine ⟨?_, fun m' hm' hq' => ?_⟩
            · rcases h3 with h3 | h3
              · exact .inr ⟨m, Nat.lt_succ_self m, by rw [HQE.out]; rfl, h3⟩
              · rw [h3]
                rcases htl.out.1 with h4 | ⟨m', h4, h5⟩
                · exact .inl h4
                · exact .inr ⟨m', Nat.lt_succ_of_lt h4, h5⟩
            · by_cases e : m' = m
              · rw [e]; exact h1
              · exact Nat.le_trans h2 (htl.out.2 m' (by omega) hq'))
          have HBI4 := Lib.hid hbi
          clear hbi htl HQE
          generalize bc ms.length m = b at HBI4 hbl HN
          go_wp2_with fail
          refine HBI4.out.mono ?_
          rintro e w5 ⟨rfl, rfl⟩
          go_wp2
          go_round
          case rel => exact ⟨m + 1, min b t, by omega, by omega, by go_num, vint (by omega), HN.out _ (Nat.min_le_left _ _) (Nat.min_le_right _ _) (by omega), HB4⟩
          case measure => simp [intOf]; omega
        · have HN := Lib.hid (show TolR k c f ms (m + 1) t from by
            refine ⟨?_, fun m' hm' hq' => ?_⟩
            · rcases htl.out.1 with h4 | ⟨m', h4, h5⟩
              · exact .inl h4
              · exact .inr ⟨m', Nat.lt_succ_of_lt h4, h5⟩
            · by_cases e : m' = m
              · rw [e, HQE.out] at hq'; cases hq'
              · exact htl.out.2 m' (by omega) hq')
          clear htl HQE
          go_wp2
          go_round
          case rel => exact ⟨m + 1, t, by omega, by omega, by go_num, rfl, HN, HB4⟩
          case measure => simp [intOf]; omega
    · have hq : ¬ (m : Int) < (P : Int) := by omega
      obtain rfl : m = P := by omega
      have HF := Lib.hid (HFIN.out t htl.out)
      go_wp2
      go_ret
      exact ⟨(t : Int), rfl, HF.out, bnext HB.out hb.out⟩

end Go.Proofs.Ytbbgjckiooejhaa
