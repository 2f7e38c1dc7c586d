/-
  The call of the reference's DecodeProposal: it returns what the plain mathematics says of the bytes. Conditions: the slice reads as bytes.
-/
import Derived.Test.YteeegpojfbgkfaaKE
namespace Go.Proofs.Yteeegpojfbgkfaa.CO
open Go.RowKit
open JM (Chg St)

theorem rdec_ret {R : Ending → World → Prop} {a : Act} {w : World} {g : Nat} {x n : Int} {s : Value} {u er : Int} (hp : a.tmps.getD 2 undef = .pointer (some ⟨g, 0, none⟩)) (h3 : a.tmps.getD 3 undef = .int .i64 u) (h4 : a.tmps.getD 4 undef = .int .i64 er) (hg : OP w g x n s)
    (hd : a.defers = []) (hR : R (.returned (.tuple #[pv x n s, .int .i64 u, .int .i64 er])) w) : bodyPost Try.prog Try.f68 R .ret a w := by
  have := results_cell_tmp_tmp (P := Try.prog) (fn := Try.f68) rfl a.tmps w g 45 _ _ _ hp hg Try.underlying45 rfl (by kernel_rfl)
  rw [h3, h4] at this
  exact bodyPost_ret this hd hR
theorem atI_cell {w : World} {a : Option Addr} {n c : Nat} {xs : List Int} {b o : Nat} (h : RdI w (.slice a n c) xs) (k : Nat) (x : Int) (hk : xs[k]? = some x)
    (hi : ∀ w0, (Instr.indexAt 36 (.slice a n c) (.int .i64 (k : Int))).run Try.prog w0 = .ok (.pointer (some ⟨b, o, none⟩)) w0) : w.cell? ⟨b, o, none⟩ = some (.int .i64 x) := by
  obtain ⟨b', o', hi', _, hc⟩ := atI h k x hk
  have h1 := hi w
  rw [hi' w] at h1
  injection h1 with h1 _
  injection h1 with h1
  injection h1 with h1
  injection h1 with h1 h2 _
  subst h1 h2
  exact hc

theorem list7 {l : List Int} (h : l.length = 7) : ∃ a b c d e f g, l = [a, b, c, d, e, f, g] := by
  match l, h with
  | [a, b, c, d, e, f, g], _ => exact ⟨a, b, c, d, e, f, g, rfl⟩
theorem fin_bad {a n : Int} {p : List Chg × St} (h : p.2.2 ≠ 0) : fin a n p = JM.bad p.2.2 := if_pos h

set_option maxRecDepth 100000 in
set_option maxHeartbeats 4000000 in
theorem rDecode (v : Value) (xs : List Int) (w : World) (h : Rd w v xs) :
    Calls Try.prog 68 #[v] w fun e w' => ∃ sv, e = .returned (.tuple #[pv (JM.decP xs).2.2.1 (JM.decP xs).2.2.2.1 sv, .int .i64 ((JM.decP xs).2.1 : Int), .int .i64 (JM.decP xs).1]) ∧ OwnC w.heap.size w' sv (JM.decP xs).2.2.2.2 ∧ Below w.heap.size w w' := by
  have hby := h.bytes
  obtain ⟨⟨x1, s1⟩, h1⟩ : ∃ p, JM.step xs (0, 0) = p := ⟨_, rfl⟩
  obtain ⟨⟨x2, s2⟩, h2⟩ : ∃ p, JM.step xs s1 = p := ⟨_, rfl⟩
  obtain ⟨⟨x3, zu3, e3⟩, h3⟩ : ∃ p, JM.step xs s2 = p := ⟨_, rfl⟩
  have u1 : s1.1 ≤ xs.length := by have := (JM.step_small xs (0, 0) hby (Nat.zero_le _)).2; rw [h1] at this; exact this
  have u2 : s2.1 ≤ xs.length := by have := (JM.step_small xs s1 hby u1).2; rw [h2] at this; exact this
  have zu3' : zu3 ≤ xs.length := by have := (JM.step_small xs s2 hby u2).2; rw [h3] at this; exact this
  have hx3 : JM.small x3 := by have := (JM.step_small xs s2 hby u2).1; rw [h3] at this; exact this
  have hm3 := many3 h1 h2 h3
  obtain ⟨C, rfl⟩ : ∃ C : Nat, x3 = (C : Int) := by unfold JM.small at hx3; exact ⟨x3.toNat, by omega⟩
  have hz3 := fun hC : 0 < (C : Int) => step_zero h3 hC
  have hrun := decP_run h1 h2 h3
  have hCs : (C : Int) < 2147483648 := hx3.2
  obtain ⟨R, hR⟩ : ∃ R, R = JM.decP xs := ⟨_, rfl⟩
  rw [← hR] at hrun ⊢
  obtain ⟨ZP, hZP⟩ : ∃ Z, Z = Obj.cells #[.int .i64 0, .int .i64 0, .slice none 0 0] 45 := ⟨_, rfl⟩
  have b0 := below_fresh w ZP
  have hP0 : OP (w.alloc ZP) w.heap.size 0 0 (.slice none 0 0) := by rw [hZP]; exact OP.fresh w 0 0 _
  obtain ⟨w0, hw0⟩ : ∃ w0, w.alloc ZP = w0 := ⟨_, rfl⟩
  rw [hw0] at b0 hP0
  have hrd := rRead v xs 3 w0 (h.below b0) (by decide)
  rw [hm3] at hrd
  simp only at hrd
  have HRD : Hid (Calls Try.prog 88 #[v, .int .i64 3] w0 _) := hrd
  have HW0 := Lib.hid hw0
  have HZP := Lib.hid hZP
  have HB0 := Lib.hid b0
  have HP0 := Lib.hid hP0
  have HV := Lib.hid h
  have HRUN := Lib.hid hrun
  have HBY := Lib.hid hby
  obtain ⟨av, nv, cv', rfl⟩ : ∃ a n c, v = .slice a n c := by obtain ⟨a, c, hv, _⟩ := h.shape; exact ⟨_, _, _, hv⟩
  clear h hby h1 h2 h3 u1 u2 hx3 hm3 hR hZP b0 hP0 hw0 hrd hrun
  go_enter Try.func68, Try.ntmps68
  go_wp2_with fail
  rw [← HZP.out, HW0.out]
  refine HRD.out.mono ?_
  rintro e w2 (⟨hne, rfl, hb2⟩ | ⟨rfl, hv, rfl, hoh, hb2⟩)
  · have HB2 := Lib.hid (bnext HB0.out hb2)
    have HP2 := Lib.hid (HP0.out.below hb2)
    have hC6 : ¬ 6 < (C : Int) := fun hC => hne (hz3 (by omega))
    have HFIN := Lib.hid (show R = JM.bad e3 by
      rw [HRUN.out, if_neg hC6, if_neg hC6, fin_bad (by rw [JM.chs_stop hne]; exact hne), JM.chs_stop hne])
    have hne' : (e3 != 0) = true := bne_t hne
    obtain ⟨o0, o1, o2, g0, g1, g2⟩ := HP2.out.cells
    clear hb2 hne hz3 hC6 HRUN HRD HW0 HZP HB0 HP0
    go_wp2
    refine rdec_ret rfl rfl rfl (HP2.out.put3 0 0 (.slice none 0 0)) rfl ⟨.slice none 0 0, ?_, ?_, ?_⟩
    · rw [HFIN.out]; rfl
    · rw [HFIN.out]; exact OwnG.nil hlC _ _ _
    · exact seen HB2.out (Nat.le_refl _) (only3 _ _ _)
  · have HB2 := Lib.hid (bnext HB0.out hb2)
    have HP2 := Lib.hid (HP0.out.below hb2)
    have HOH2 := Lib.hid (hoh.mono HB0.out.size)
    obtain ⟨hda, hdc, rfl⟩ : ∃ a c, hv = .slice a 3 c := by obtain ⟨a, c, h, _⟩ := hoh.rd.shape; exact ⟨a, c, h⟩
    obtain ⟨bx2, ox2, hi2, _, hc2⟩ := atI HOH2.out.rd 2 _ rfl
    have hi2 : ∀ w0, (Instr.indexAt 36 (.slice hda 3 hdc) (.int .i64 2)).run Try.prog w0 = .ok (.pointer (some ⟨bx2, ox2, none⟩)) w0 := hi2
    by_cases hC6 : 6 < (C : Int)
    · have HFIN := Lib.hid (show R = JM.bad 3 by
        rw [HRUN.out, if_pos hC6, if_pos hC6]; rfl)
      obtain ⟨o0, o1, o2, g0, g1, g2⟩ := HP2.out.cells
      clear hb2 hz3 HRUN HRD HW0 HZP HB0 HP0 hoh HOH2
      go_wp2
      refine rdec_ret rfl rfl rfl (HP2.out.put3 0 0 (.slice none 0 0)) rfl ⟨.slice none 0 0, ?_, ?_, ?_⟩
      · rw [HFIN.out]; rfl
      · rw [HFIN.out]; exact OwnG.nil hlC _ _ _
      · exact seen HB2.out (Nat.le_refl _) (only3 _ _ _)
    · have HFIN := Lib.hid (show R = fin x1 x2 (JM.chs xs (zu3, 0) C) by
        rw [HRUN.out, if_neg hC6, if_neg hC6, Int.toNat_natCast])
      have hC6' : decide (6 < (C : Int)) = false := decide_eq_false hC6
      have HC6 := Lib.hid (show C ≤ 6 by omega)
      obtain ⟨bx0, ox0, hi0, _, hc0⟩ := atI HOH2.out.rd 0 _ rfl
      have hi0 : ∀ w0, (Instr.indexAt 36 (.slice hda 3 hdc) (.int .i64 0)).run Try.prog w0 = .ok (.pointer (some ⟨bx0, ox0, none⟩)) w0 := hi0
      obtain ⟨bx1, ox1, hi1, _, hc1⟩ := atI HOH2.out.rd 1 _ rfl
      have hi1 : ∀ w0, (Instr.indexAt 36 (.slice hda 3 hdc) (.int .i64 1)).run Try.prog w0 = .ok (.pointer (some ⟨bx1, ox1, none⟩)) w0 := hi1
      have HU3 := Lib.hid zu3'
      clear hb2 hz3 HRUN HRD HW0 HZP HB0 HP0 hoh hC6 hCs zu3'
      go_wp2
      refine wp_region_held_drew (S := fun w' => Below w2.heap.size w2 w') (by kernel_rfl) ((Below.refl _ _).drew) (fun ha => ?_)
      replace ha : Below w2.heap.size w2 w2.drew := (Below.refl _ _).drew
      generalize w2.drew = wa at ha ⊢
      refine takeH (i := 0) (v := ?_) rfl (by kernel_rfl) (by kernel_rfl) (by kernel_rfl) (fun _ _ _ h => h) (Or.inl ⟨by rfl, ?_⟩) (by assumption) ?_
      rotate_left
      · (intro w hSw; (try dsimp only at hSw); go_simp; first | done | with_reducible rfl)
      (try simp only [Act.put, List.setIfInBounds_toArray, List.set_cons_zero, List.set_cons_succ])
      refine takeH (i := 1) (v := ?_) rfl (by kernel_rfl) (by kernel_rfl) (by kernel_rfl) (fun _ _ _ h => h) (Or.inl ⟨by rfl, ?_⟩) (by assumption) ?_
      rotate_left
      · (intro w hSw; (try dsimp only at hSw); have hcx := hi0; go_simp; first | done | with_reducible rfl)
      (try simp only [Act.put, List.setIfInBounds_toArray, List.set_cons_zero, List.set_cons_succ])
      refine takeH (i := 2) (v := ?_) rfl (by kernel_rfl) (by kernel_rfl) (by kernel_rfl) (fun _ _ _ h => h) (Or.inl ⟨by rfl, ?_⟩) (by assumption) ?_
      rotate_left
      · (intro w hSw; (try dsimp only at hSw); have hcx := below_cell hSw hc0; go_simp; first | done | with_reducible rfl)
      (try simp only [Act.put, List.setIfInBounds_toArray, List.set_cons_zero, List.set_cons_succ])
      refine takeH (i := 3) (v := ?_) rfl (by kernel_rfl) (by kernel_rfl) (by kernel_rfl) (fun _ _ _ h => h) (Or.inl ⟨by rfl, ?_⟩) (by assumption) ?_
      rotate_left
      · (intro w hSw; (try dsimp only at hSw); go_simp; first | done | with_reducible rfl)
      (try simp only [Act.put, List.setIfInBounds_toArray, List.set_cons_zero, List.set_cons_succ])
      refine takeH (i := 4) (v := ?_) rfl (by kernel_rfl) (by kernel_rfl) (by kernel_rfl) (fun _ _ _ h => h) (Or.inl ⟨by rfl, ?_⟩) (by assumption) ?_
      rotate_left
      · (intro w hSw; (try dsimp only at hSw); have hcx := hi1; go_simp; first | done | with_reducible rfl)
      (try simp only [Act.put, List.setIfInBounds_toArray, List.set_cons_zero, List.set_cons_succ])
      refine takeH (i := 5) (v := ?_) rfl (by kernel_rfl) (by kernel_rfl) (by kernel_rfl) (fun _ _ _ h => h) (Or.inl ⟨by rfl, ?_⟩) (by assumption) ?_
      rotate_left
      · (intro w hSw; (try dsimp only at hSw); have hcx := below_cell hSw hc1; go_simp; first | done | with_reducible rfl)
      (try simp only [Act.put, List.setIfInBounds_toArray, List.set_cons_zero, List.set_cons_succ])
      refine takeH (i := 6) (v := ?_) rfl (by kernel_rfl) (by kernel_rfl) (by kernel_rfl) (fun _ _ _ h => h) (Or.inl ⟨by rfl, ?_⟩) (by assumption) ?_
      rotate_left
      · (intro w hSw; (try dsimp only at hSw); go_simp; first | done | with_reducible rfl)
      (try simp only [Act.put, List.setIfInBounds_toArray, List.set_cons_zero, List.set_cons_succ])
      refine wpAnyH_ready (rs := [7]) (by kernel_rfl) (by simp) ?_
      refine stepH rfl (fun K hK => ?_) AllReadyH.nil
      go_simp
      have hfz := below_fresh wa (.cells #[.int .i64 0, .int .i64 0, .slice none 0 0] 45)
      have hOP := OP.fresh wa 0 0 (.slice none 0 0)
      have hb := bnext ha hfz
      have hlt : w2.heap.size ≤ wa.heap.size := ha.size
      refine hK.out _ _ (hb) (fun _ => ?_)
      clear hK K
      (try simp only [Act.put, List.setIfInBounds_toArray, List.set_cons_zero, List.set_cons_succ])
      obtain ⟨pb, hpb⟩ : ∃ pb, pb = wa.heap.size := ⟨_, rfl⟩
      rw [← hpb] at hOP hlt ⊢
      clear hpb
      generalize wa.alloc (.cells #[.int .i64 0, .int .i64 0, .slice none 0 0] 45) = wb at hOP hb ⊢
      obtain ⟨o0, o1, o2, g0, g1, g2⟩ := hOP.cells
      refine wpAnyH_ready (rs := [8]) (by kernel_rfl) (by simp) ?_
      refine stepH rfl (fun K hK => ?_) AllReadyH.nil
      go_simp
      have hc := hb.trans ((only3 (w := wb) (B := pb) (.int .i64 x1) (.int .i64 x2) (.slice none 0 0)).below hlt hb.size)
      have hX := hOP.put3 x1 x2 (.slice none 0 0)
      refine hK.out _ _ (hc) (fun _ => ?_)
      clear hK K
      (try simp only [Act.put, List.setIfInBounds_toArray, List.set_cons_zero, List.set_cons_succ])
      refine wpAnyH_done (by kernel_rfl) ?_ _
      have HPB := Lib.hid (show w.heap.size < pb from Nat.lt_of_lt_of_le HP2.out.lt hlt)
      have HX3 := Lib.hid hX
      have HP3 := Lib.hid (HP2.out.below hc)
      have HO3 := Lib.hid (HOH2.out.below hc)
      have HB3 := Lib.hid (bnext HB2.out hc)
      clear hX hc hb hOP hlt o0 o1 o2 g0 g1 g2 hi0 hi1 hc0 hc1 hc2 HP2 HOH2 HB2
      generalize ((wb.setCell ⟨pb, 0, none⟩ (.int .i64 x1)).setCell ⟨pb, 1, none⟩ (.int .i64 x2)).setCell ⟨pb, 2, none⟩ (.slice none 0 0) = w3 at HX3 HP3 HO3 HB3 ⊢
      go_wp2
      go_loopw [6, 9] (fun at_ i wr => ∃ (k u : Nat) (sv : Value), k ≤ C ∧ i = .int .i64 k ∧ at_ = .int .i64 (u : Int) ∧ Hid ((JM.chs xs (zu3, 0) k).2 = (u, 0)) ∧ Hid (OP wr pb x1 x2 sv) ∧ Hid (OP wr w.heap.size 0 0 (.slice none 0 0)) ∧ Hid (OwnC w.heap.size wr sv (JM.chs xs (zu3, 0) k).1) ∧ Hid (OwnI w.heap.size wr (.slice hda 3 hdc) [x1, x2, (C : Int)]) ∧ Hid (Below w.heap.size w wr)) (fun _ i _ => C - (intOf i).toNat)
      case atStart => exact ⟨0, zu3, _, Nat.zero_le _, rfl, rfl, rfl, HX3.out, HP3.out, OwnG.nil hlC _ _ _, HO3.out, HB3.out⟩
      case round =>
        obtain ⟨k, u, sv, hk, rfl, rfl, hst, hx, hp, ho, hh, hbl⟩ := hrel
        clear HX3 HP3 HO3 HB3
        have hc2 := atI_cell hh.out.rd 2 _ rfl hi2
        have hC6 := HC6.out
        by_cases hlt : k < C
        · have hq2 : (k : Int) < (C : Int) := by omega
          have hul : u ≤ xs.length := by
            have := JM.chs_used xs (zu3, 0) HBY.out HU3.out k
            rw [hst.out] at this; exact this
          obtain ⟨v2, hcut, hrd2⟩ := (HV.out.below hbl.out).cutL' u hul
          have hM := rRead v2 _ 7 wr hrd2 (by decide)
          have hsh := many_shift xs u 7
          have hMl := JM.many_length (xs.drop u) (0, 0) 7
          have hMu := (JM.many_small (xs.drop u) (0, 0) hrd2.bytes (Nat.zero_le _) 7).2
          rw [List.length_drop] at hMu
          have hcs : JM.chs xs (zu3, 0) (k + 1) = ((JM.chs xs (zu3, 0) k).1 ++ [JM.toChg (JM.many xs (u, 0) 7).1], (JM.many xs (u, 0) 7).2) := by
            show (_, _) = (_, _); rw [hst.out]
          rw [hsh] at hcs
          generalize JM.many (xs.drop u) (0, 0) 7 = M at hM hMl hMu hcs
          obtain ⟨l7, n7, e7⟩ := M
          obtain ⟨k', s', t', v', a', b', c', rfl⟩ := list7 hMl
          simp only at hM hMu hcs
          have HM : Hid (Calls Try.prog 88 #[v2, .int .i64 7] wr _) := hM
          have HXL := Lib.hid (show xs.length ≤ 9223372036854775807 by
            obtain ⟨_, _, _, _, hn1, hn2, hcm, _⟩ := HV.out
            unfold maxLen at hcm
            omega)
          have HCS := Lib.hid hcs
          have HST := Lib.hid hst.out
          clear hM hsh hMl hcs hrd2 hst
          go_wp2_with fail
          refine HM.out.mono ?_
          rintro e w2 (⟨hne, rfl, hb2⟩ | ⟨rfl, civ, rfl, hoc, hb2⟩)
          · have HB5 := Lib.hid (bnext hbl.out hb2)
            have HP5 := Lib.hid (hp.out.below hb2)
            have HR2 := Lib.hid (show R = JM.bad e7 by
              have h1 : (JM.chs xs (zu3, 0) (k + 1)).2.2 ≠ 0 := by rw [HCS.out]; exact hne
              have h2 := JM.chs_err_le (by omega : k + 1 ≤ C) h1
              rw [HFIN.out, fin_bad (by rw [h2]; exact h1), h2, HCS.out])
            have hne' : (e7 != 0) = true := bne_t hne
            obtain ⟨o0, o1, o2, g0, g1, g2⟩ := HP5.out.cells
            clear hx hp ho hbl hh hc2 hb2 hne HM HCS HST HFIN
            go_wp2
            refine rdec_ret rfl rfl rfl (HP5.out.put3 0 0 (.slice none 0 0)) rfl ⟨.slice none 0 0, ?_, ?_, ?_⟩
            · rw [HR2.out]; rfl
            · rw [HR2.out]; exact OwnG.nil hlC _ _ _
            · exact seen HB5.out (Nat.le_refl _) (only3 _ _ _)
          · obtain ⟨B1, hB1⟩ : ∃ B, B = wr.heap.size := ⟨_, rfl⟩
            rw [← hB1] at hoc
            obtain ⟨ci, cc, rfl⟩ : ∃ a c, civ = .slice a 7 c := by obtain ⟨a, c, h, _⟩ := hoc.rd.shape; exact ⟨a, c, h⟩
            have HI2 := Lib.hid hoc
            have hyl := JM.chs_length xs (zu3, 0) k
            have HS1 := Lib.hid (show (JM.chs xs (zu3, 0) (k + 1)).1 = (JM.chs xs (zu3, 0) k).1 ++ [(k', s', t', v', a', b', c')] by rw [HCS.out]; rfl)
            have HS2 := Lib.hid (show (JM.chs xs (zu3, 0) (k + 1)).2 = (u + n7, 0) by rw [HCS.out])
            generalize (JM.chs xs (zu3, 0) k).1 = ys at ho hyl HS1
            obtain ⟨asv, csv, rfl, hcsv, _⟩ := ho.out.rd.shape
            rw [hyl] at hx ho
            have HYB := Lib.hid (show ys.length ≤ 1073741824 by omega)
            have HX2 := Lib.hid (hx.out.below hb2)
            have HP2 := Lib.hid (hp.out.below hb2)
            have HO2 := Lib.hid (ho.out.below hb2)
            have HH2 := Lib.hid (hh.out.below hb2)
            have HB2 := Lib.hid (bnext hbl.out hb2)
            have HSZ := Lib.hid (show w.heap.size ≤ w2.drew.heap.size from HB2.out.size)
            have hw1 : (u : Int) + (n7 : Int) ≤ 9223372036854775807 := by have := HXL.out; omega
            have HSUM := Lib.hid (show (u : Int) + (n7 : Int) = ((u + n7 : Nat) : Int) by omega)
            have c0 : w2.drew.cell? ⟨pb, 2, none⟩ = some (.slice asv k csv) := HX2.out.cells.2.2.1
            obtain ⟨by0, oy0, hj0, _, _⟩ := atI HI2.out.rd 0 _ rfl
            obtain ⟨by1, oy1, hj1, _, _⟩ := atI HI2.out.rd 1 _ rfl
            obtain ⟨by2, oy2, hj2, _, _⟩ := atI HI2.out.rd 2 _ rfl
            obtain ⟨by3, oy3, hj3, _, _⟩ := atI HI2.out.rd 3 _ rfl
            obtain ⟨by4, oy4, hj4, _, _⟩ := atI HI2.out.rd 4 _ rfl
            obtain ⟨by5, oy5, hj5, _, _⟩ := atI HI2.out.rd 5 _ rfl
            obtain ⟨by6, oy6, hj6, _, _⟩ := atI HI2.out.rd 6 _ rfl
            have hj0 : ∀ w0, (Instr.indexAt 36 (.slice ci 7 cc) (.int .i64 0)).run Try.prog w0 = .ok (.pointer (some ⟨by0, oy0, none⟩)) w0 := hj0
            have hj1 : ∀ w0, (Instr.indexAt 36 (.slice ci 7 cc) (.int .i64 1)).run Try.prog w0 = .ok (.pointer (some ⟨by1, oy1, none⟩)) w0 := hj1
            have hj2 : ∀ w0, (Instr.indexAt 36 (.slice ci 7 cc) (.int .i64 2)).run Try.prog w0 = .ok (.pointer (some ⟨by2, oy2, none⟩)) w0 := hj2
            have hj3 : ∀ w0, (Instr.indexAt 36 (.slice ci 7 cc) (.int .i64 3)).run Try.prog w0 = .ok (.pointer (some ⟨by3, oy3, none⟩)) w0 := hj3
            have hj4 : ∀ w0, (Instr.indexAt 36 (.slice ci 7 cc) (.int .i64 4)).run Try.prog w0 = .ok (.pointer (some ⟨by4, oy4, none⟩)) w0 := hj4
            have hj5 : ∀ w0, (Instr.indexAt 36 (.slice ci 7 cc) (.int .i64 5)).run Try.prog w0 = .ok (.pointer (some ⟨by5, oy5, none⟩)) w0 := hj5
            have hj6 : ∀ w0, (Instr.indexAt 36 (.slice ci 7 cc) (.int .i64 6)).run Try.prog w0 = .ok (.pointer (some ⟨by6, oy6, none⟩)) w0 := hj6
            clear hx hp ho hbl hh hc2 hb2 hyl HM HCS HST hoc hB1 hul hcut
            go_wp2
            have HI3 := Lib.hid (show OwnI B1 w2.drew (.slice ci 7 cc) [k', s', t', v', a', b', c'] from HI2.out.drewN 1)
            have HX3 := Lib.hid (show OP w2.drew pb x1 x2 (.slice asv k csv) from HX2.out)
            have HP3 := Lib.hid (show OP w2.drew w.heap.size 0 0 (.slice none 0 0) from HP2.out)
            have HO3 := Lib.hid (show OwnC w.heap.size w2.drew (.slice asv k csv) ys from HO2.out.drewN 1)
            have HH3 := Lib.hid (show OwnI w.heap.size w2.drew (.slice hda 3 hdc) [x1, x2, (C : Int)] from HH2.out.drewN 1)
            have HB3 := Lib.hid HB2.out.drew
            clear HI2 HX2 HP2 HO2 HH2 HB2
            refine wp_region_held_drew (S := fun w' => OwnI B1 w' (.slice ci 7 cc) [k', s', t', v', a', b', c']) (by kernel_rfl) HI3.out (fun ha => ?_)
            replace ha := HI3.out
            generalize w2.drew = wa at ha HI3 HX3 HP3 HO3 HH3 HB3 HSZ c0 ⊢
            refine takeH (i := 0) (v := ?_) rfl (by kernel_rfl) (by kernel_rfl) (by kernel_rfl) (fun _ _ _ h => h) (Or.inl ⟨by rfl, ?_⟩) (by assumption) ?_
            rotate_left
            · (intro w hSw; (try dsimp only at hSw); go_simp; first | done | with_reducible rfl)
            (try simp only [Act.put, List.setIfInBounds_toArray, List.set_cons_zero, List.set_cons_succ])
            refine takeH (i := 2) (v := ?_) rfl (by kernel_rfl) (by kernel_rfl) (by kernel_rfl) (fun _ _ _ h => h) (Or.inl ⟨by rfl, ?_⟩) (by assumption) ?_
            rotate_left
            · (intro w hSw; (try dsimp only at hSw); go_simp; first | done | with_reducible rfl)
            (try simp only [Act.put, List.setIfInBounds_toArray, List.set_cons_zero, List.set_cons_succ])
            refine takeH (i := 3) (v := ?_) rfl (by kernel_rfl) (by kernel_rfl) (by kernel_rfl) (fun _ _ _ h => h) (Or.inl ⟨by rfl, ?_⟩) (by assumption) ?_
            rotate_left
            · (intro w hSw; (try dsimp only at hSw); have hcx := hj0; go_simp; first | done | with_reducible rfl)
            (try simp only [Act.put, List.setIfInBounds_toArray, List.set_cons_zero, List.set_cons_succ])
            refine takeH (i := 4) (v := ?_) rfl (by kernel_rfl) (by kernel_rfl) (by kernel_rfl) (fun _ _ _ h => h) (Or.inl ⟨by rfl, ?_⟩) (by assumption) ?_
            rotate_left
            · (intro w hSw; (try dsimp only at hSw); have hcx := atI_cell hSw.rd 0 _ rfl hj0; go_simp; first | done | with_reducible rfl)
            (try simp only [Act.put, List.setIfInBounds_toArray, List.set_cons_zero, List.set_cons_succ])
            refine takeH (i := 5) (v := ?_) rfl (by kernel_rfl) (by kernel_rfl) (by kernel_rfl) (fun _ _ _ h => h) (Or.inl ⟨by rfl, ?_⟩) (by assumption) ?_
            rotate_left
            · (intro w hSw; (try dsimp only at hSw); go_simp; first | done | with_reducible rfl)
            (try simp only [Act.put, List.setIfInBounds_toArray, List.set_cons_zero, List.set_cons_succ])
            refine takeH (i := 6) (v := ?_) rfl (by kernel_rfl) (by kernel_rfl) (by kernel_rfl) (fun _ _ _ h => h) (Or.inl ⟨by rfl, ?_⟩) (by assumption) ?_
            rotate_left
            · (intro w hSw; (try dsimp only at hSw); have hcx := hj1; go_simp; first | done | with_reducible rfl)
            (try simp only [Act.put, List.setIfInBounds_toArray, List.set_cons_zero, List.set_cons_succ])
            refine takeH (i := 7) (v := ?_) rfl (by kernel_rfl) (by kernel_rfl) (by kernel_rfl) (fun _ _ _ h => h) (Or.inl ⟨by rfl, ?_⟩) (by assumption) ?_
            rotate_left
            · (intro w hSw; (try dsimp only at hSw); have hcx := atI_cell hSw.rd 1 _ rfl hj1; go_simp; first | done | with_reducible rfl)
            (try simp only [Act.put, List.setIfInBounds_toArray, List.set_cons_zero, List.set_cons_succ])
            refine takeH (i := 8) (v := ?_) rfl (by kernel_rfl) (by kernel_rfl) (by kernel_rfl) (fun _ _ _ h => h) (Or.inl ⟨by rfl, ?_⟩) (by assumption) ?_
            rotate_left
            · (intro w hSw; (try dsimp only at hSw); go_simp; first | done | with_reducible rfl)
            (try simp only [Act.put, List.setIfInBounds_toArray, List.set_cons_zero, List.set_cons_succ])
            refine takeH (i := 9) (v := ?_) rfl (by kernel_rfl) (by kernel_rfl) (by kernel_rfl) (fun _ _ _ h => h) (Or.inl ⟨by rfl, ?_⟩) (by assumption) ?_
            rotate_left
            · (intro w hSw; (try dsimp only at hSw); have hcx := hj2; go_simp; first | done | with_reducible rfl)
            (try simp only [Act.put, List.setIfInBounds_toArray, List.set_cons_zero, List.set_cons_succ])
            refine takeH (i := 10) (v := ?_) rfl (by kernel_rfl) (by kernel_rfl) (by kernel_rfl) (fun _ _ _ h => h) (Or.inl ⟨by rfl, ?_⟩) (by assumption) ?_
            rotate_left
            · (intro w hSw; (try dsimp only at hSw); have hcx := atI_cell hSw.rd 2 _ rfl hj2; go_simp; first | done | with_reducible rfl)
            (try simp only [Act.put, List.setIfInBounds_toArray, List.set_cons_zero, List.set_cons_succ])
            refine takeH (i := 11) (v := ?_) rfl (by kernel_rfl) (by kernel_rfl) (by kernel_rfl) (fun _ _ _ h => h) (Or.inl ⟨by rfl, ?_⟩) (by assumption) ?_
            rotate_left
            · (intro w hSw; (try dsimp only at hSw); go_simp; first | done | with_reducible rfl)
            (try simp only [Act.put, List.setIfInBounds_toArray, List.set_cons_zero, List.set_cons_succ])
            refine takeH (i := 12) (v := ?_) rfl (by kernel_rfl) (by kernel_rfl) (by kernel_rfl) (fun _ _ _ h => h) (Or.inl ⟨by rfl, ?_⟩) (by assumption) ?_
            rotate_left
            · (intro w hSw; (try dsimp only at hSw); have hcx := hj3; go_simp; first | done | with_reducible rfl)
            (try simp only [Act.put, List.setIfInBounds_toArray, List.set_cons_zero, List.set_cons_succ])
            refine takeH (i := 13) (v := ?_) rfl (by kernel_rfl) (by kernel_rfl) (by kernel_rfl) (fun _ _ _ h => h) (Or.inl ⟨by rfl, ?_⟩) (by assumption) ?_
            rotate_left
            · (intro w hSw; (try dsimp only at hSw); have hcx := atI_cell hSw.rd 3 _ rfl hj3; go_simp; first | done | with_reducible rfl)
            (try simp only [Act.put, List.setIfInBounds_toArray, List.set_cons_zero, List.set_cons_succ])
            refine takeH (i := 14) (v := ?_) rfl (by kernel_rfl) (by kernel_rfl) (by kernel_rfl) (fun _ _ _ h => h) (Or.inl ⟨by rfl, ?_⟩) (by assumption) ?_
            rotate_left
            · (intro w hSw; (try dsimp only at hSw); go_simp; first | done | with_reducible rfl)
            (try simp only [Act.put, List.setIfInBounds_toArray, List.set_cons_zero, List.set_cons_succ])
            refine takeH (i := 15) (v := ?_) rfl (by kernel_rfl) (by kernel_rfl) (by kernel_rfl) (fun _ _ _ h => h) (Or.inl ⟨by rfl, ?_⟩) (by assumption) ?_
            rotate_left
            · (intro w hSw; (try dsimp only at hSw); have hcx := hj4; go_simp; first | done | with_reducible rfl)
            (try simp only [Act.put, List.setIfInBounds_toArray, List.set_cons_zero, List.set_cons_succ])
            refine takeH (i := 16) (v := ?_) rfl (by kernel_rfl) (by kernel_rfl) (by kernel_rfl) (fun _ _ _ h => h) (Or.inl ⟨by rfl, ?_⟩) (by assumption) ?_
            rotate_left
            · (intro w hSw; (try dsimp only at hSw); have hcx := atI_cell hSw.rd 4 _ rfl hj4; go_simp; first | done | with_reducible rfl)
            (try simp only [Act.put, List.setIfInBounds_toArray, List.set_cons_zero, List.set_cons_succ])
            refine takeH (i := 17) (v := ?_) rfl (by kernel_rfl) (by kernel_rfl) (by kernel_rfl) (fun _ _ _ h => h) (Or.inl ⟨by rfl, ?_⟩) (by assumption) ?_
            rotate_left
            · (intro w hSw; (try dsimp only at hSw); go_simp; first | done | with_reducible rfl)
            (try simp only [Act.put, List.setIfInBounds_toArray, List.set_cons_zero, List.set_cons_succ])
            refine takeH (i := 18) (v := ?_) rfl (by kernel_rfl) (by kernel_rfl) (by kernel_rfl) (fun _ _ _ h => h) (Or.inl ⟨by rfl, ?_⟩) (by assumption) ?_
            rotate_left
            · (intro w hSw; (try dsimp only at hSw); have hcx := hj5; go_simp; first | done | with_reducible rfl)
            (try simp only [Act.put, List.setIfInBounds_toArray, List.set_cons_zero, List.set_cons_succ])
            refine takeH (i := 19) (v := ?_) rfl (by kernel_rfl) (by kernel_rfl) (by kernel_rfl) (fun _ _ _ h => h) (Or.inl ⟨by rfl, ?_⟩) (by assumption) ?_
            rotate_left
            · (intro w hSw; (try dsimp only at hSw); have hcx := atI_cell hSw.rd 5 _ rfl hj5; go_simp; first | done | with_reducible rfl)
            (try simp only [Act.put, List.setIfInBounds_toArray, List.set_cons_zero, List.set_cons_succ])
            refine takeH (i := 20) (v := ?_) rfl (by kernel_rfl) (by kernel_rfl) (by kernel_rfl) (fun _ _ _ h => h) (Or.inl ⟨by rfl, ?_⟩) (by assumption) ?_
            rotate_left
            · (intro w hSw; (try dsimp only at hSw); go_simp; first | done | with_reducible rfl)
            (try simp only [Act.put, List.setIfInBounds_toArray, List.set_cons_zero, List.set_cons_succ])
            refine takeH (i := 21) (v := ?_) rfl (by kernel_rfl) (by kernel_rfl) (by kernel_rfl) (fun _ _ _ h => h) (Or.inl ⟨by rfl, ?_⟩) (by assumption) ?_
            rotate_left
            · (intro w hSw; (try dsimp only at hSw); have hcx := hj6; go_simp; first | done | with_reducible rfl)
            (try simp only [Act.put, List.setIfInBounds_toArray, List.set_cons_zero, List.set_cons_succ])
            refine takeH (i := 22) (v := ?_) rfl (by kernel_rfl) (by kernel_rfl) (by kernel_rfl) (fun _ _ _ h => h) (Or.inl ⟨by rfl, ?_⟩) (by assumption) ?_
            rotate_left
            · (intro w hSw; (try dsimp only at hSw); have hcx := atI_cell hSw.rd 6 _ rfl hj6; go_simp; first | done | with_reducible rfl)
            (try simp only [Act.put, List.setIfInBounds_toArray, List.set_cons_zero, List.set_cons_succ])
            refine takeH (i := 23) (v := ?_) rfl (by kernel_rfl) (by kernel_rfl) (by kernel_rfl) (fun _ _ _ h => h) (Or.inl ⟨by rfl, ?_⟩) (by assumption) ?_
            rotate_left
            · (intro w hSw; (try dsimp only at hSw); go_simp; first | done | with_reducible rfl)
            (try simp only [Act.put, List.setIfInBounds_toArray, List.set_cons_zero, List.set_cons_succ])
            refine takeH (i := 24) (v := ?_) rfl (by kernel_rfl) (by kernel_rfl) (by kernel_rfl) (fun _ _ _ h => h) (Or.inl ⟨by rfl, ?_⟩) (by assumption) ?_
            rotate_left
            · (intro w hSw; (try dsimp only at hSw); go_simp; first | done | with_reducible rfl)
            (try simp only [Act.put, List.setIfInBounds_toArray, List.set_cons_zero, List.set_cons_succ])
            refine wpAnyH_ready (rs := [1, 25]) (by kernel_rfl) (by simp) ?_
            refine stepH rfl (fun K hK => ?_) (stepH rfl (fun K hK => ?_) AllReadyH.nil)
            · have hcl := c0
              go_simp
              refine hK.out _ _ (HI3.out) (fun _ => ?_)
              clear hK K
              (try simp only [Act.put, List.setIfInBounds_toArray, List.set_cons_zero, List.set_cons_succ])
              refine wpAnyH_ready (rs := [25]) (by kernel_rfl) (by simp) ?_
              refine stepH rfl (fun K hK => ?_) AllReadyH.nil
              go_simp
              refine hK.out _ _ (HI3.out.below (below_fresh _ _)) (fun _ => ?_)
              clear hK K
              (try simp only [Act.put, List.setIfInBounds_toArray, List.set_cons_zero, List.set_cons_succ])
              refine wpAnyH_ready (rs := [26]) (by kernel_rfl) (by simp) ?_
              refine stepH rfl (fun K hK => ?_) AllReadyH.nil
              refine step_appG1 chgE (k', s', t', v', a', b', c') rfl _ _ rfl rfl HO3.out rfl HYB.out HSZ.out ?_
              intro v6 w6 ho6 hb6 hk6
              obtain ⟨av6, cv6, rfl, _, _⟩ := ho6.rd.shape
              have hi6 := ownG_keep HI3.out hk6 (by decide)
              have hx6 : OP w6 pb x1 x2 (.slice asv k csv) := OP.keep (e := 63) HX3.out (by decide) hk6
              obtain ⟨o0, o1, o2, g0, g1, g2⟩ := hx6.cells
              refine hK.out _ _ (hi6) (fun _ => ?_)
              clear hK K
              (try simp only [Act.put, List.setIfInBounds_toArray, List.set_cons_zero, List.set_cons_succ])
              refine takeH (i := 27) (v := ?_) rfl (by kernel_rfl) (by kernel_rfl) (by kernel_rfl) (fun _ _ _ h => h) (Or.inl ⟨by rfl, ?_⟩) (by assumption) ?_
              rotate_left
              · (intro w hSw; (try dsimp only at hSw); go_simp; first | done | with_reducible rfl)
              (try simp only [Act.put, List.setIfInBounds_toArray, List.set_cons_zero, List.set_cons_succ])
              refine wpAnyH_ready (rs := [28]) (by kernel_rfl) (by simp) ?_
              refine stepH rfl (fun K hK => ?_) AllReadyH.nil
              go_simp
              have hon : Only pb w6 (w6.setCell ⟨pb, 2, none⟩ (.slice av6 (ys.length + 1) cv6)) := Only.set 2 _
              have hi7 := ownG_only hi6 hx6 (by decide) hon
              refine hK.out _ _ (hi7) (fun _ => ?_)
              clear hK K
              (try simp only [Act.put, List.setIfInBounds_toArray, List.set_cons_zero, List.set_cons_succ])
              refine wpAnyH_done (by kernel_rfl) ?_ _
              have hpb := HPB.out
              have el : (ys ++ [(k', s', t', v', a', b', c')]).length = ys.length + 1 := by simp
              rw [el] at ho6
              have HX6 := Lib.hid (hx6.put (.slice av6 (ys.length + 1) cv6))
              have HP6 := Lib.hid ((OP.keep (e := 63) HP3.out (by decide) hk6).only hon (by omega))
              have HO6 := Lib.hid (show OwnC w.heap.size (w6.setCell ⟨pb, 2, none⟩ (.slice av6 (ys.length + 1) cv6)) (.slice av6 (ys.length + 1) cv6) (JM.chs xs (zu3, 0) (k + 1)).1 by rw [HS1.out]; exact ownC_only ho6 hx6 (by decide) hon)
              have HH6 := Lib.hid (ownG_only (ownG_keep HH3.out hk6 (by decide)) hx6 (by decide) hon)
              have HB6 := Lib.hid (seen (HB3.out.trans hb6) (by omega) hon)
              clear hx6 hon el ho6 hb6 hk6 hi6 hi7 o0 o1 o2 g0 g1 g2 c0 HX3 HP3 HO3 HH3 HB3 HI3 HSZ ha HS1 hpb
              generalize w6.setCell ⟨pb, 2, none⟩ (.slice av6 (ys.length + 1) cv6) = w7 at HX6 HP6 HO6 HH6 HB6 ⊢
              go_wp2
              rw [HSUM.out]
              go_roundw
              case rel => exact ⟨k + 1, u + n7, _, by omega, by go_num, rfl, HS2, HX6, HP6, HO6, HH6, HB6⟩
              case measure => simp [intOf]; omega
            · go_simp
              refine hK.out _ _ (HI3.out.below (below_fresh _ _)) (fun _ => ?_)
              clear hK K
              (try simp only [Act.put, List.setIfInBounds_toArray, List.set_cons_zero, List.set_cons_succ])
              refine wpAnyH_ready (rs := [1]) (by kernel_rfl) (by simp) ?_
              refine stepH rfl (fun K hK => ?_) AllReadyH.nil
              have hcl := below_cell (below_fresh wa (.cells #[.int .i64 k', .int .i64 s', .int .i64 t', .int .i64 v', .int .i64 a', .int .i64 b', .int .i64 c'] 63)) c0
              go_simp
              refine hK.out _ _ (HI3.out.below (below_fresh _ _)) (fun _ => ?_)
              clear hK K
              (try simp only [Act.put, List.setIfInBounds_toArray, List.set_cons_zero, List.set_cons_succ])
              refine wpAnyH_ready (rs := [26]) (by kernel_rfl) (by simp) ?_
              refine stepH rfl (fun K hK => ?_) AllReadyH.nil
              refine step_appG1 chgE (k', s', t', v', a', b', c') rfl _ _ rfl rfl HO3.out rfl HYB.out HSZ.out ?_
              intro v6 w6 ho6 hb6 hk6
              obtain ⟨av6, cv6, rfl, _, _⟩ := ho6.rd.shape
              have hi6 := ownG_keep HI3.out hk6 (by decide)
              have hx6 : OP w6 pb x1 x2 (.slice asv k csv) := OP.keep (e := 63) HX3.out (by decide) hk6
              obtain ⟨o0, o1, o2, g0, g1, g2⟩ := hx6.cells
              refine hK.out _ _ (hi6) (fun _ => ?_)
              clear hK K
              (try simp only [Act.put, List.setIfInBounds_toArray, List.set_cons_zero, List.set_cons_succ])
              refine takeH (i := 27) (v := ?_) rfl (by kernel_rfl) (by kernel_rfl) (by kernel_rfl) (fun _ _ _ h => h) (Or.inl ⟨by rfl, ?_⟩) (by assumption) ?_
              rotate_left
              · (intro w hSw; (try dsimp only at hSw); go_simp; first | done | with_reducible rfl)
              (try simp only [Act.put, List.setIfInBounds_toArray, List.set_cons_zero, List.set_cons_succ])
              refine wpAnyH_ready (rs := [28]) (by kernel_rfl) (by simp) ?_
              refine stepH rfl (fun K hK => ?_) AllReadyH.nil
              go_simp
              have hon : Only pb w6 (w6.setCell ⟨pb, 2, none⟩ (.slice av6 (ys.length + 1) cv6)) := Only.set 2 _
              have hi7 := ownG_only hi6 hx6 (by decide) hon
              refine hK.out _ _ (hi7) (fun _ => ?_)
              clear hK K
              (try simp only [Act.put, List.setIfInBounds_toArray, List.set_cons_zero, List.set_cons_succ])
              refine wpAnyH_done (by kernel_rfl) ?_ _
              have hpb := HPB.out
              have el : (ys ++ [(k', s', t', v', a', b', c')]).length = ys.length + 1 := by simp
              rw [el] at ho6
              have HX6 := Lib.hid (hx6.put (.slice av6 (ys.length + 1) cv6))
              have HP6 := Lib.hid ((OP.keep (e := 63) HP3.out (by decide) hk6).only hon (by omega))
              have HO6 := Lib.hid (show OwnC w.heap.size (w6.setCell ⟨pb, 2, none⟩ (.slice av6 (ys.length + 1) cv6)) (.slice av6 (ys.length + 1) cv6) (JM.chs xs (zu3, 0) (k + 1)).1 by rw [HS1.out]; exact ownC_only ho6 hx6 (by decide) hon)
              have HH6 := Lib.hid (ownG_only (ownG_keep HH3.out hk6 (by decide)) hx6 (by decide) hon)
              have HB6 := Lib.hid (seen (HB3.out.trans hb6) (by omega) hon)
              clear hx6 hon el ho6 hb6 hk6 hi6 hi7 o0 o1 o2 g0 g1 g2 c0 HX3 HP3 HO3 HH3 HB3 HI3 HSZ ha HS1 hpb
              generalize w6.setCell ⟨pb, 2, none⟩ (.slice av6 (ys.length + 1) cv6) = w7 at HX6 HP6 HO6 HH6 HB6 ⊢
              go_wp2
              rw [HSUM.out]
              go_roundw
              case rel => exact ⟨k + 1, u + n7, _, by omega, by go_num, rfl, HS2, HX6, HP6, HO6, HH6, HB6⟩
              case measure => simp [intOf]; omega
        · have hq2 : ¬ (k : Int) < (C : Int) := by omega
          obtain rfl : k = C := by omega
          have hfin := HFIN.out
          clear HFIN
          have hp0 : JM.chs xs (zu3, 0) k = ((JM.chs xs (zu3, 0) k).1, (u, 0)) := by rw [← hst.out]
          rw [hp0] at hfin
          clear hp0 hst
          generalize (JM.chs xs (zu3, 0) k).1 = ys at ho hfin
          obtain ⟨asv, csv, rfl, hcsv, _⟩ := ho.out.rd.shape
          obtain ⟨p0, p1, p2, _, _, _⟩ := hx.out.cells
          obtain ⟨o0, o1, o2, g0, g1, g2⟩ := hp.out.cells
          have hv := rValidate x1 x2 (.slice asv ys.length csv) ys wr ho.out.rd
          by_cases hee : JM.errP x1 x2 ys = 0
          · rw [hee] at hv
            have HV2 := Lib.hid hv
            have HFIN := Lib.hid (show R = (0, u, x1, x2, ys) by rw [hfin]; unfold fin; rw [if_neg (by simp), if_neg (by rw [hee]; simp)])
            clear hv hfin hee
            go_wp2_with fail
            refine HV2.out.mono ?_
            rintro e w5 ⟨rfl, hb5⟩
            have HX5 := Lib.hid (hx.out.below hb5)
            have HP5 := Lib.hid (hp.out.below hb5)
            have HO5 := Lib.hid (ho.out.below hb5)
            have HB5 := Lib.hid (bnext hbl.out hb5)
            clear hx hp ho hbl hh hc2 p0 p1 p2 o0 o1 o2 g0 g1 g2 hb5 HV2
            obtain ⟨p0, p1, p2, _, _, _⟩ := HX5.out.cells
            obtain ⟨o0, o1, o2, g0, g1, g2⟩ := HP5.out.cells
            go_wp2
            refine rdec_ret rfl rfl rfl (HP5.out.put3 x1 x2 _) rfl ⟨.slice asv ys.length csv, ?_, ?_, ?_⟩
            · rw [HFIN.out]
            · rw [HFIN.out]
              exact ownC_only HO5.out HP5.out (by decide) (only3 _ _ _)
            · exact seen HB5.out (Nat.le_refl _) (only3 _ _ _)
          · have HV2 := Lib.hid hv
            have HFIN := Lib.hid (show R = JM.bad (JM.errP x1 x2 ys) by rw [hfin]; unfold fin; rw [if_neg (by simp), if_pos hee])
            have hne : (JM.errP x1 x2 ys != 0) = true := bne_t hee
            generalize JM.errP x1 x2 ys = ee at HV2 HFIN hne
            clear hv hfin hee
            go_wp2_with fail
            refine HV2.out.mono ?_
            rintro e w5 ⟨rfl, hb5⟩
            have HP5 := Lib.hid (hp.out.below hb5)
            have HB5 := Lib.hid (bnext hbl.out hb5)
            clear hx hp ho hbl hh hc2 p0 p1 p2 o0 o1 o2 g0 g1 g2 hb5 HV2
            obtain ⟨o0, o1, o2, g0, g1, g2⟩ := HP5.out.cells
            go_wp2
            refine rdec_ret rfl rfl rfl (HP5.out.put3 0 0 (.slice none 0 0)) rfl ⟨.slice none 0 0, ?_, ?_, ?_⟩
            · rw [HFIN.out]; rfl
            · rw [HFIN.out]; exact OwnG.nil hlC _ _ _
            · exact seen HB5.out (Nat.le_refl _) (only3 _ _ _)

end Go.Proofs.Yteeegpojfbgkfaa.CO
