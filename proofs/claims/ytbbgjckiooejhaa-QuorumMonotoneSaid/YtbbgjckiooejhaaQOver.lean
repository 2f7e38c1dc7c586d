/-
  The calls of Overlap and Tolerance: the least number of common servers of two minimal quorums; the least number of members without which there is no quorum, less one. Conditions: the members read and the view is valid.
-/
import Derived.Test.YtbbgjckiooejhaaQSort
namespace Go.Proofs.Ytbbgjckiooejhaa
open Go.RowKit
open QM (Mem)

theorem lists_exist {k c f : Int} {ms : List Mem} (hv : QM.Val 0 ms) {M : List Nat} (h : QM.MinM k c f ms M) : ∃ ls, QM.MinL (QM.isQ k c f ms) ms ls ∧ ls.Perm (M.map QM.srv) := by
  refine ⟨(M.map QM.srv).mergeSort fun x y => !QM.lex y x, ?_, List.mergeSort_perm _ _⟩
  refine h.sorted hv (List.mergeSort_perm _ _) fun i j a b hij ha hb => ?_
  have hs := List.pairwise_mergeSort (le := fun x y => !QM.lex y x) (fun a b c h1 h2 => by
    rw [Bool.not_eq_true'] at h1 h2 ⊢
    exact QM.lex_ntrans _ _ _ h2 h1) (fun a b => by
    cases h : QM.lex b a with
    | false => rfl
    | true => rw [QM.lex_asymm h]; rfl) (M.map QM.srv)
  rw [List.pairwise_iff_getElem] at hs
  obtain ⟨hi, ea⟩ := List.getElem?_eq_some_iff.1 ha
  obtain ⟨hj, eb⟩ := List.getElem?_eq_some_iff.1 hb
  have := hs i j hi hj hij
  rw [ea, eb, Bool.not_eq_true'] at this
  exact this
def LeastM (M : List Nat) (o : Nat) : Prop := (∃ a ∈ M, ∃ b ∈ M, o = QM.pc (a &&& b)) ∧ ∀ a ∈ M, ∀ b ∈ M, o ≤ QM.pc (a &&& b)
theorem LeastM.lists {k c f : Int} {ms : List Mem} (hv : QM.Val 0 ms) {M : List Nat} (h : QM.MinM k c f ms M) {o : Nat} (g : LeastM M o) : QM.Least (M.map QM.srv) (o : Int) := by
  have hp : ∀ a ∈ M, ∀ b ∈ M, QM.pc (a &&& b) = QM.com (QM.srv a) (QM.srv b) := fun a ha b hb => QM.pc_and hv ((h.2 a).1 ha).1 ((h.2 b).1 hb).1
  obtain ⟨⟨a, ha, b, hb, h1⟩, h2⟩ := g
  refine .inr ⟨⟨_, List.mem_map_of_mem ha, _, List.mem_map_of_mem hb, by rw [h1, hp a ha b hb]⟩, fun x hx y hy => ?_⟩
  obtain ⟨a', ha', rfl⟩ := List.mem_map.1 hx
  obtain ⟨b', hb', rfl⟩ := List.mem_map.1 hy
  have := h2 a' ha' b' hb'
  rw [hp a' ha' b' hb'] at this
  omega

set_option maxRecDepth 100000 in
set_option maxHeartbeats 4000000 in
theorem cOverlap (sv : Value) (k c f : Int) (ms : List Mem) (w : World) (hr : RdM w sv ms) (he : QM.errV k c f ms = 0) :
    Calls Try.prog 25 #[vw sv k c f] w fun e w' => ∃ o ls, e = .returned (.int .i64 o) ∧ QM.MinL (QM.isQ k c f ms) ms ls ∧ QM.Least ls o ∧ Below w.heap.size w w' := by
  have hval := (QM.errV_zero.1 he).2
  have hv := VBox.fresh w sv k c f
  have hB := below_fresh w (.cells #[sv, .int .i64 k, .int .i64 c, .int .i64 f] 26)
  have h0 := hr.below hB
  have HC := Lib.hid (fun w1 (h : RdM w1 sv ms) => cMinimalSets sv k c f ms w1 h he)
  have H := Lib.hid h0
  have HV := Lib.hid hv
  have HB := Lib.hid hB
  have HL := Lib.hid hval
  clear h0 hv hB hr hval he
  generalize hw0 : w.alloc (.cells #[sv, .int .i64 k, .int .i64 c, .int .i64 f] 26) = w0 at H HV HB
  obtain ⟨v0, v1, v2, v3, v4⟩ := HV.out
  have HW0 := Lib.hid hw0
  clear hw0
  go_enter Try.func25, Try.ntmps25
  go_wp2_with fail
  rw [HW0.out]
  refine (HC.out _ H.out).mono ?_
  rintro e w2 ⟨v, M, rfl, ho, hm, hb2⟩
  obtain ⟨av, cv, rfl, hcv, hlv⟩ := ho.rd.shape
  have HS := Lib.hid ho.rd
  obtain ⟨ls, hls, hpm⟩ := lists_exist HL.out hm
  have HLS := Lib.hid hls
  have HFIN := Lib.hid (show ∀ o : Nat, LeastM M o → QM.Least ls (o : Int) from fun o h => (h.lists HL.out hm).same fun q => (hpm.mem_iff).symm)
  have HNIL := Lib.hid (show M.length = 0 → ls = [] from fun h => by
    have := hpm.length_eq
    rw [List.length_map, h] at this
    exact List.eq_nil_of_length_eq_zero this)
  have HB2 := Lib.hid (bnext HB.out hb2)
  have hMl := hm.length HL.out
  have HLT := Lib.hid (show ∀ a ∈ M, a < 65536 from fun a ha => Nat.lt_trans (((hm.2 a).1 ha).1.lt HL.out) (by decide))
  clear v0 v1 v2 v3 v4 HC HW0 H HV HB hb2 hm ho hls hpm HL
  by_cases hz : M.length = 0
  · have hq : ((M.length : Int) == 0) = true := beq_t (by omega)
    have HNN := Lib.hid (HNIL.out hz)
    clear hz HNIL HFIN
    go_wp2
    go_ret
    exact ⟨0, ls, rfl, HLS.out, .inl ⟨HNN.out, rfl⟩, HB2.out⟩
  · have hq : ((M.length : Int) == 0) = false := beq_f (by omega)
    have hpos : 0 < M.length := by omega
    obtain ⟨b0, o0, hi0, hb0, c0⟩ := atS HS.out 0 M[0] (List.getElem?_eq_getElem hpos)
    have hi0' : ∀ w0, (Instr.indexAt 57 (.slice av M.length cv) (.int .i64 0)).run Try.prog w0 = .ok (.pointer (some ⟨b0, o0, none⟩)) w0 := hi0
    have hs0 := HLT.out M[0] (List.getElem_mem hpos)
    have HST := Lib.hid (show ∃ a ∈ M, ∃ b ∈ M, QM.pc M[0] = QM.pc (a &&& b) from ⟨M[0], List.getElem_mem hpos, M[0], List.getElem_mem hpos, by rw [Nat.and_self]⟩)
    have hp16 := pc_le M[0]
    have HSZ := Lib.hid (fun w => cSize M[0] w hs0)
    clear hi0 hs0 HNIL hz
    generalize M[0] = s0 at c0 HST HSZ hp16
    generalize QM.pc s0 = p0 at HST HSZ hp16
    go_wp2_with fail
    refine (HSZ.out _).mono ?_
    rintro e w3 ⟨rfl, hb3⟩
    have HB3 := Lib.hid hb3
    clear HSZ hb3 hi0' hb0 c0
    go_wp2
    go_loopw [4, 20] (fun u i wr => ∃ (j o : Nat), j ≤ M.length ∧ o ≤ 16 ∧ i = .int .i64 j ∧ u = .int .i64 o ∧ Hid (∃ a ∈ M, ∃ b ∈ M, o = QM.pc (a &&& b)) ∧ Hid (∀ a ∈ M.take j, ∀ b ∈ M, o ≤ QM.pc (a &&& b)) ∧ Hid (Below w2.heap.size w2 wr)) (fun _ i _ => M.length - (intOf i).toNat)
    case atStart => exact ⟨0, p0, Nat.zero_le _, hp16, rfl, rfl, HST.out, (fun a ha => by simp at ha), HB3.out⟩
    case round =>
      obtain ⟨j, o, hj, ho, rfl, rfl, hex, hall, hbr⟩ := hrel
      clear HST HB3 hp16
      by_cases hlt : j < M.length
      · obtain ⟨b1, o1, hi1, hb1, c1⟩ := atS (HS.out.below hbr.out) j M[j] (List.getElem?_eq_getElem hlt)
        have hq1 : (j : Int) < (M.length : Int) := by omega
        have HTK := Lib.hid (List.take_succ_eq_append_getElem hlt)
        have hmem := List.getElem_mem hlt
        have ha16 := HLT.out _ hmem
        have HMA := Lib.hid hmem
        clear hmem
        generalize M[j] = a at c1 HTK ha16 HMA
        go_wp2
        go_loopw [4, 26] (fun u i wr => ∃ (j2 o : Nat), j2 ≤ M.length ∧ o ≤ 16 ∧ i = .int .i64 j2 ∧ u = .int .i64 o ∧ Hid (∃ a ∈ M, ∃ b ∈ M, o = QM.pc (a &&& b)) ∧ Hid (∀ a ∈ M.take j, ∀ b ∈ M, o ≤ QM.pc (a &&& b)) ∧ Hid (∀ b ∈ M.take j2, o ≤ QM.pc (a &&& b)) ∧ Hid (Below w2.heap.size w2 wr)) (fun _ i _ => M.length - (intOf i).toNat)
        case atStart => exact ⟨0, o, Nat.zero_le _, ho, rfl, rfl, hex.out, hall.out, (fun b hb => by simp at hb), hbr.out⟩
        case round =>
          obtain ⟨j2, o2, hj2, ho2, rfl, rfl, hex2, hall2, hin2, hbr2⟩ := hrel
          clear hex hall hbr c1 hi1 hb1
          by_cases hlt2 : j2 < M.length
          · obtain ⟨b2, o3, hi2, hb2, c2⟩ := atS (HS.out.below hbr2.out) j2 M[j2] (List.getElem?_eq_getElem hlt2)
            have hq2 : (j2 : Int) < (M.length : Int) := by omega
            have HTK2 := Lib.hid (List.take_succ_eq_append_getElem hlt2)
            have hmem := List.getElem_mem hlt2
            have hb16 := HLT.out _ hmem
            have HMB := Lib.hid hmem
            clear hmem
            generalize M[j2] = b at c2 HTK2 hb16 HMB
            have hand := u16_and_nat a b ha16 hb16
            have hab : a &&& b < 65536 := Nat.lt_of_le_of_lt Nat.and_le_left ha16
            have HCS := Lib.hid (fun w => cSize (a &&& b) w hab)
            have hp := pc_le (a &&& b)
            have HP := Lib.hid (show ∃ p, p = QM.pc (a &&& b) from ⟨_, rfl⟩)
            obtain ⟨p, hpe⟩ := HP.out
            have HPE := Lib.hid hpe
            rw [← hpe] at hp
            have HCS' := Lib.hid (show ∀ w, Calls Try.prog 45 #[.int .u16 ((a &&& b : Nat) : Int)] w fun e w' => e = .returned (.int .i64 (p : Int)) ∧ Below w.heap.size w w' from fun w => by rw [hpe]; exact HCS.out w)
            clear HCS hpe HP
            by_cases hmn : p < o2
            · have hmz : (p : Int) < (o2 : Int) := by omega
              have H1 := Lib.hid (show ∃ a ∈ M, ∃ b ∈ M, p = QM.pc (a &&& b) from ⟨a, HMA.out, b, HMB.out, HPE.out⟩)
              have H2 := Lib.hid (show ∀ a ∈ M.take j, ∀ b ∈ M, p ≤ QM.pc (a &&& b) from fun x hx y hy => Nat.le_trans (Nat.le_of_lt hmn) (hall2.out x hx y hy))
              have H3 := Lib.hid (show ∀ y ∈ M.take (j2 + 1), p ≤ QM.pc (a &&& y) from fun y hy => by
                rw [HTK2.out] at hy
                rcases List.mem_append.1 hy with h | h
                · exact Nat.le_trans (Nat.le_of_lt hmn) (hin2.out y h)
                · rw [List.mem_singleton] at h; subst h; exact Nat.le_of_eq HPE.out)
              clear hex2 hall2 hin2 HPE
              generalize a &&& b = ab at hand HCS' hab
              go_wp2_with fail
              refine (HCS'.out _).mono ?_
              rintro e w4 ⟨rfl, hb4⟩
              have HB4 := Lib.hid (bnext hbr2.out hb4)
              clear hb4 hbr2 c2 hi2 hb2
              go_wp2
              go_round
              case rel => exact ⟨j2 + 1, p, by omega, by omega, by go_num, vint (by omega), H1, H2, H3, HB4⟩
              case measure => simp [intOf]; omega
            · have hmz : ¬ (p : Int) < (o2 : Int) := by omega
              have H3 := Lib.hid (show ∀ y ∈ M.take (j2 + 1), o2 ≤ QM.pc (a &&& y) from fun y hy => by
                rw [HTK2.out] at hy
                rcases List.mem_append.1 hy with h | h
                · exact hin2.out y h
                · rw [List.mem_singleton] at h; subst h; rw [← HPE.out]; omega)
              clear hin2 HPE
              generalize a &&& b = ab at hand HCS' hab
              go_wp2_with fail
              refine (HCS'.out _).mono ?_
              rintro e w4 ⟨rfl, hb4⟩
              have HB4 := Lib.hid (bnext hbr2.out hb4)
              clear hb4 hbr2 c2 hi2 hb2
              go_wp2
              go_round
              case rel => exact ⟨j2 + 1, o2, by omega, by omega, by go_num, vint (by omega), hex2, hall2, H3, HB4⟩
              case measure => simp [intOf]; omega
          · have hq2 : ¬ ((j2 : Int) < (M.length : Int)) := by omega
            have H2 := Lib.hid (show ∀ x ∈ M.take (j + 1), ∀ y ∈ M, o2 ≤ QM.pc (x &&& y) from fun x hx y hy => by
              rw [HTK.out] at hx
              rcases List.mem_append.1 hx with h | h
              · exact hall2.out x h y hy
              · rw [List.mem_singleton] at h
                subst h
                exact hin2.out y (by rw [List.take_of_length_le (by omega)]; exact hy))
            clear hall2 hin2
            go_wp2
            go_round
            case rel => exact ⟨j + 1, o2, by omega, ho2, by go_num, rfl, hex2, H2, hbr2⟩
            case measure => simp [intOf]; omega
      · have hq1 : ¬ ((j : Int) < (M.length : Int)) := by omega
        have HF := Lib.hid (HFIN.out o ⟨hex.out, fun a ha b hb => hall.out a (by rw [List.take_of_length_le (by omega)]; exact ha) b hb⟩)
        clear hex hall HFIN
        go_wp2
        go_ret
        exact ⟨(o : Int), rfl, ls, HLS.out, HF.out, bnext HB2.out hbr.out⟩

theorem sub_of_dif {ms : List Mem} {s : Nat} (hv : QM.Val 0 ms) (hs : s < 65536) : QM.dif s (QM.memL ms) = 0 ↔ QM.Sub ms s := by
  have hA := Nat.lt_trans (QM.memL_lt hv) (show 8192 < 65536 by decide)
  constructor
  · intro h i hi
    have h1 := QM.tb_dif hs hA i
    rw [h, hi, Nat.zero_testBit] at h1
    exact (QM.memL_bit i).1 (by cases hb : (QM.memL ms).testBit i with
      | true => rfl
      | false => rw [hb] at h1; simp at h1)
  · intro h
    apply Nat.eq_of_testBit_eq
    intro i
    rw [QM.tb_dif hs hA, Nat.zero_testBit]
    cases hi : s.testBit i with
    | false => rfl
    | true => rw [(QM.memL_bit i).2 (h i hi)]; rfl
theorem qm_dif {k c f : Int} {ms : List Mem} (hv : QM.Val 0 ms) {s : Nat} (hs : QM.Sub ms s) : QM.qm k c f ms (QM.dif (QM.memL ms) s) = QM.isQ k c f ms fun x => !QM.tb s x := by
  refine QM.isQ_congr fun m hm => ?_
  have h1 := QM.tb_dif (Nat.lt_trans (QM.memL_lt hv) (show 8192 < 65536 by decide)) (Nat.lt_trans (hs.lt hv) (show 8192 < 65536 by decide)) m.1.toNat
  unfold QM.tb
  rw [h1]
  have := tb_memL hm
  unfold QM.tb at this
  rw [this]; rfl
def TolM (k c f : Int) (ms : List Mem) (n t : Nat) : Prop :=
  (∃ s, QM.Sub ms s ∧ QM.qm k c f ms (QM.dif (QM.memL ms) s) = false ∧ t = QM.pc s) ∧ ∀ s, s < n → QM.Sub ms s → QM.qm k c f ms (QM.dif (QM.memL ms) s) = false → t ≤ QM.pc s
theorem TolM.tol {k c f : Int} {ms : List Mem} (hv : QM.Val 0 ms) {t : Nat} (h : TolM k c f ms (QM.memL ms + 1) t) : QM.Tol k c f ms (t : Int) := by
  obtain ⟨⟨s, h1, h2, h3⟩, h4⟩ := h
  refine ⟨⟨QM.tb s, by rw [← qm_dif hv h1]; exact h2, by rw [QM.cnt_mask hv h1, h3]⟩, fun p hp => ?_⟩
  have hsub := QM.mask_sub ms p
  have e1 : QM.isQ k c f ms (fun x => !QM.tb (QM.mask ms p) x) = QM.isQ k c f ms fun x => !p x := QM.isQ_congr fun m hm => by rw [QM.mask_bit hv p hm]
  have e2 : QM.cnt (QM.tb (QM.mask ms p)) ms = QM.cnt p ms := QM.cnt_congr fun m hm => QM.mask_bit hv p hm
  have := h4 (QM.mask ms p) (by have := QM.mask_le hsub; omega) hsub (by rw [qm_dif hv hsub, e1]; exact hp)
  rw [← e2, QM.cnt_mask hv hsub]
  omega
theorem TolM.start {k c f : Int} {ms : List Mem} (hr : QM.errR k c f = 0) (hv : QM.Val 0 ms) : TolM k c f ms 0 (QM.pc (QM.memL ms)) := by
  refine ⟨⟨QM.memL ms, QM.sub_mem ms, ?_, rfl⟩, fun s h => absurd h (Nat.not_lt_zero _)⟩
  rw [qm_dif hv (QM.sub_mem ms), ← QM.isQ_not_all hr hv (k := k)]
  exact QM.isQ_congr fun m hm => by rw [tb_memL hm]

set_option maxRecDepth 100000 in
set_option maxHeartbeats 4000000 in
theorem cTolerance (sv : Value) (k c f : Int) (ms : List Mem) (w : World) (hr : RdM w sv ms) (he : QM.errV k c f ms = 0) :
    Calls Try.prog 27 #[vw sv k c f] w fun e w' => ∃ t : Int, e = .returned (.int .i64 (t - 1)) ∧ QM.Tol k c f ms t ∧ Below w.heap.size w w' := by
  obtain ⟨her, hval⟩ := QM.errV_zero.1 he
  have hv := VBox.fresh w sv k c f
  have hB := below_fresh w (.cells #[sv, .int .i64 k, .int .i64 c, .int .i64 f] 26)
  have h0 := hr.below hB
  obtain ⟨ad, cp, rfl, hcp, hl⟩ := hr.shape
  have hvl := fun w hw => cValidate (.slice ad ms.length cp) k c f ms w hw
  rw [he] at hvl
  have HC := Lib.hid hvl
  have H := Lib.hid h0
  have HV := Lib.hid hv
  have HB := Lib.hid hB
  have HL := Lib.hid hval
  have HFIN := Lib.hid (fun t (h : TolM k c f ms (QM.memL ms + 1) t) => h.tol hval)
  have HST := Lib.hid (TolM.start her hval)
  have HQ := Lib.hid (fun s w hw (hs : QM.Sub ms s) => cHolds (.slice ad ms.length cp) k c f ms (QM.dif (QM.memL ms) s) w hw hval her (QM.sub_dif (QM.sub_mem ms)))
  have HMO := Lib.hid (fun w hw => cMembersOf (.slice ad ms.length cp) ms 0 w hw hval)
  have hA := QM.memL_lt hval
  have HSUB := Lib.hid (fun s (hs : s < 65536) => sub_of_dif (s := s) hval hs)
  have HWI := Lib.hid (fun s (hs : s < 65536) w => cWithin s (QM.memL ms) w hs (by omega))
  have HDF := Lib.hid (fun s (hs : s < 65536) => andNot_dif (s := QM.memL ms) (t := s) (by omega) hs)
  have HSS := Lib.hid (fun w => cSize (QM.memL ms) w (by omega))
  have hpA := pc_le (QM.memL ms)
  clear h0 hv hB hr hval hvl he her
  unfold TolM at HFIN HST
  generalize QM.qm k c f ms = Q at HFIN HST HQ
  generalize QM.memL ms = A at HFIN HST HQ HMO hA HSUB HWI HDF HSS hpA
  generalize QM.pc A = pA at HST HSS hpA
  have hwr : IntKind.u16.wrap ((A : Int) + 1) = (A : Int) + 1 := by rw [IntKind.wrap_u16]; omega
  generalize hw0 : w.alloc (.cells #[.slice ad ms.length cp, .int .i64 k, .int .i64 c, .int .i64 f] 26) = w0 at H HV HB
  obtain ⟨v0, v1, v2, v3, v4⟩ := HV.out
  have HW0 := Lib.hid hw0
  clear hw0
  go_enter Try.func27, Try.ntmps27
  go_wp2_with fail
  rw [HW0.out]
  refine (HC.out _ H.out).mono ?_
  rintro e w1 ⟨rfl, hb1⟩
  obtain ⟨u0, u1, u2, u3, u4⟩ := HV.out.below hb1
  have HR1 := Lib.hid (H.out.below hb1)
  have HV1 := Lib.hid (HV.out.below hb1)
  have HB1 := Lib.hid (bnext HB.out hb1)
  clear v0 v1 v2 v3 v4 HC HW0 H HV HB hb1
  go_wp2_with fail
  refine (HMO.out _ HR1.out).mono ?_
  rintro e w2 ⟨rfl, hb2⟩
  have HR2 := Lib.hid (HR1.out.below hb2)
  have HV2 := Lib.hid (HV1.out.below hb2)
  have HB2 := Lib.hid (bnext HB1.out hb2)
  clear u0 u1 u2 u3 u4 HR1 HV1 HB1 hb2 HMO
  go_wp2_with fail
  refine (HSS.out _).mono ?_
  rintro e w3 ⟨rfl, hb3⟩
  have HR3 := Lib.hid (HR2.out.below hb3)
  have HV3 := Lib.hid (HV2.out.below hb3)
  have HB3 := Lib.hid (bnext HB2.out hb3)
  clear HR2 HV2 HB2 hb3 HSS
  go_wp2
  go_loopw [4, 16] (fun u i wr => ∃ (s t : Nat), s ≤ A + 1 ∧ t ≤ 16 ∧ i = .int .u16 s ∧ u = .int .i64 t ∧ Hid ((∃ s, QM.Sub ms s ∧ Q (QM.dif A s) = false ∧ t = QM.pc s) ∧ ∀ s', s' < s → QM.Sub ms s' → Q (QM.dif A s') = false → t ≤ QM.pc s') ∧ Hid (RdM wr (.slice ad ms.length cp) ms) ∧ Hid (VBox wr w.heap.size (.slice ad ms.length cp) k c f) ∧ Hid (Below w.heap.size w wr)) (fun _ i _ => A + 1 - (intOf i).toNat)
  case atStart => exact ⟨0, pA, Nat.zero_le _, hpA, rfl, rfl, HST.out, HR3.out, HV3.out, HB3.out⟩
  case round =>
    obtain ⟨s, t, hs, ht, rfl, rfl, hst, hrd, hvb, hbr⟩ := hrel
    clear HST HR3 HV3 HB3 hpA
    by_cases hlt : s < A + 1
    · have hq : (s : Int) < (A : Int) + 1 := by omega
      have hs16 : s < 65536 := by omega
      have hws : IntKind.u16.wrap ((s : Int) + 1) = (s : Int) + 1 := by rw [IntKind.wrap_u16]; omega
      have hdf := HDF.out s hs16
      obtain ⟨z0, z1, z2, z3, z4⟩ := hvb.out
      by_cases hd : QM.dif s A = 0
      · have hsub := (HSUB.out s hs16).1 hd
        have hwi := HWI.out s hs16
        rw [decide_eq_true hd] at hwi
        have HW := Lib.hid hwi
        have hqc := fun w hw => HQ.out s w hw hsub
        obtain ⟨q, hqe⟩ : ∃ q, q = Q (QM.dif A s) := ⟨_, rfl⟩
        rw [← hqe] at hqc
        have HQE := Lib.hid hqe
        have HQC := Lib.hid hqc
        have HSB := Lib.hid hsub
        clear hd hwi hqc hqe hsub
        generalize hdd : QM.dif A s = D at hdf HQC HQE
        have HDD := Lib.hid hdd
        clear hdd
        cases q
        · have hsz := fun w => cSize s w hs16
          have hp16 := pc_le s
          obtain ⟨p, hpe⟩ : ∃ p, p = QM.pc s := ⟨_, rfl⟩
          rw [← hpe] at hsz hp16
          have HPE := Lib.hid hpe
          have HSZ := Lib.hid hsz
          clear hpe hsz
          have hcase : p < t ∨ ¬ p < t := Nat.lt_or_ge p t |>.imp id Nat.not_lt.2
          have HN := Lib.hid (show ∀ m : Nat, m ≤ p → m ≤ t → (m = p ∨ m = t) → (∃ s, QM.Sub ms s ∧ Q (QM.dif A s) = false ∧ m = QM.pc s) ∧ ∀ s', s' < s + 1 → QM.Sub ms s' → Q (QM.dif A s') = false → m ≤ QM.pc s' from fun m h1 h2 h3 => by
            refine ⟨?_, fun s' hs' hsub' hq' => ?_⟩
            · rcases h3 with rfl | rfl
              · exact ⟨s, HSB.out, by rw [HDD.out]; exact HQE.out.symm, HPE.out⟩
              · exact hst.out.1
            · by_cases e : s' = s
              · subst e; rw [← HPE.out]; exact h1
              · exact Nat.le_trans h2 (hst.out.2 s' (by omega) hsub' hq'))
          clear hst HPE HQE HSB HDD
          go_wp2_with fail
          refine (HW.out _).mono ?_
          rintro e w4 ⟨rfl, rfl⟩
          go_wp2_with fail
          refine (HQC.out _ hrd.out).mono ?_
          rintro e w5 ⟨rfl, hb5⟩
          have HR5 := Lib.hid (hrd.out.below hb5)
          have HV5 := Lib.hid (hvb.out.below hb5)
          have HB5 := Lib.hid (bnext hbr.out hb5)
          clear z0 z1 z2 z3 z4 hrd hvb hbr hb5
          go_wp2_with fail
          refine (HSZ.out _).mono ?_
          rintro e w6 ⟨rfl, hb6⟩
          have HR6 := Lib.hid (HR5.out.below hb6)
          have HV6 := Lib.hid (HV5.out.below hb6)
          have HB6 := Lib.hid (bnext HB5.out hb6)
          clear HR5 HV5 HB5 hb6
          go_wp2
          go_round
          case rel => exact ⟨s + 1, min p t, by omega, by omega, by go_num, vint (by omega), HN.out _ (Nat.min_le_left _ _) (Nat.min_le_right _ _) (by omega), HR6, HV6, HB6⟩
          case measure => simp [intOf]; omega
        · have HN := Lib.hid (show (∃ s, QM.Sub ms s ∧ Q (QM.dif A s) = false ∧ t = QM.pc s) ∧ ∀ s', s' < s + 1 → QM.Sub ms s' → Q (QM.dif A s') = false → t ≤ QM.pc s' from ⟨hst.out.1, fun s' hs' hsub' hq' => by
            by_cases e : s' = s
            · subst e; rw [HDD.out, ← HQE.out] at hq'; cases hq'
            · exact hst.out.2 s' (by omega) hsub' hq'⟩)
          clear hst HQE HSB HDD
          go_wp2_with fail
          refine (HW.out _).mono ?_
          rintro e w4 ⟨rfl, rfl⟩
          go_wp2_with fail
          refine (HQC.out _ hrd.out).mono ?_
          rintro e w5 ⟨rfl, hb5⟩
          have HR5 := Lib.hid (hrd.out.below hb5)
          have HV5 := Lib.hid (hvb.out.below hb5)
          have HB5 := Lib.hid (bnext hbr.out hb5)
          clear z0 z1 z2 z3 z4 hrd hvb hbr hb5
          go_wp2
          go_round
          case rel => exact ⟨s + 1, t, by omega, by omega, by go_num, rfl, HN, HR5, HV5, HB5⟩
          case measure => simp [intOf]; omega
      · have hns : ¬ QM.Sub ms s := fun h => hd ((HSUB.out s hs16).2 h)
        have hwi := HWI.out s hs16
        rw [decide_eq_false hd] at hwi
        have HW := Lib.hid hwi
        have HN := Lib.hid (show (∃ s, QM.Sub ms s ∧ Q (QM.dif A s) = false ∧ t = QM.pc s) ∧ ∀ s', s' < s + 1 → QM.Sub ms s' → Q (QM.dif A s') = false → t ≤ QM.pc s' from ⟨hst.out.1, fun s' hs' hsub' hq' => by
          by_cases e : s' = s
          · subst e; exact absurd hsub' hns
          · exact hst.out.2 s' (by omega) hsub' hq'⟩)
        clear hst hd hwi hns hdf
        go_wp2_with fail
        refine (HW.out _).mono ?_
        rintro e w4 ⟨rfl, rfl⟩
        go_wp2
        go_round
        case rel => exact ⟨s + 1, t, by omega, by omega, by go_num, rfl, HN, hrd, hvb, hbr⟩
        case measure => simp [intOf]; omega
    · have hq : ¬ (s : Int) < (A : Int) + 1 := by omega
      obtain rfl : s = A + 1 := by omega
      have HF := Lib.hid (HFIN.out t hst.out)
      clear HFIN hst
      go_wp2
      go_ret
      exact ⟨(t : Int), rfl, HF.out, hbr.out⟩

end Go.Proofs.Ytbbgjckiooejhaa
