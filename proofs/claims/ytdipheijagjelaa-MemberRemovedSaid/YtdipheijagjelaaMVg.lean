/-
  The call of the reference's ValidateSummary: it returns the error that the plain mathematics says. No conditions beyond that the summary reads.
-/
import Derived.Test.YtdipheijagjelaaMVf
namespace Go.Proofs.Ytdipheijagjelaa
open Go.RowKit
open MM (Mem Ent Sm Tri)

set_option maxRecDepth 100000 in
set_option maxHeartbeats 4000000 in
theorem rValSum (xv : Value) (s : Sm) (w : World) (h : RdS w xv s) :
    Calls Try.prog 18 #[xv] w fun e w' => e = .returned (.int .i64 (MM.errS s)) ∧ Below w.heap.size w w' := by
  obtain ⟨x, y, z, rfl, hj, hr, hw⟩ := h
  obtain ⟨J, R', W, k, c, f, v, a, n⟩ := s
  have hB := below_fresh w (.cells #[x, y, z, .int .i64 k, .int .i64 c, .int .i64 f, .int .i64 v, .int .i64 a, .int .i64 n] 34)
  have hP := B9.fresh w 34 x y z k c f v a n
  dsimp only at hj hr hw ⊢
  have hZ : MM.errZ ⟨J, R', W, k, c, f, v, a, n⟩ = (if ¬ (k = 0 ∧ c = 0 ∧ f = 0) ∧ JM.errR k c f ≠ 0 then JM.errR k c f
      else if (v < 0 ∨ a < 0 ∨ n < 0) ∨ ((k = 0 ∧ c = 0 ∧ f = 0) ∧ ¬ (v = 0 ∧ a = 0 ∧ n = 0)) then 9 else 0) := by
    unfold MM.errZ MM.rz MM.tri MM.neg
    simp
  obtain ⟨adw, cw, rfl, hcw, hlw⟩ := hw.shape
  generalize hw1 : w.alloc (.cells #[x, y, .slice adw W.length cw, .int .i64 k, .int .i64 c, .int .i64 f, .int .i64 v, .int .i64 a, .int .i64 n] 34) = w1 at hB hP
  obtain ⟨R, hR⟩ : ∃ R, R = MM.errS ⟨J, R', W, k, c, f, v, a, n⟩ := ⟨_, rfl⟩
  rw [← hR]
  have hR2 : R = MM.or2 (if (MM.allS J && MM.allS R') = true then (if (MM.asc J && MM.asc R') = true then 0 else 7) else 9) (MM.or2 (MM.errW 0 W) (MM.errZ ⟨J, R', W, k, c, f, v, a, n⟩)) := hR
  clear hR
  rw [hZ] at hR2
  clear hZ
  have h1 := fun w (h : RdI w x J) => rAllS x J w h
  have h2 := fun w (h : RdI w y R') => rAllS y R' w h
  have h3 := fun w (h : RdI w x J) => rAsc x J w h
  have h4 := fun w (h : RdI w y R') => rAsc y R' w h
  generalize MM.allS J = a1 at h1 hR2
  generalize MM.allS R' = a2 at h2 hR2
  generalize MM.asc J = a3 at h3 hR2
  generalize MM.asc R' = a4 at h4 hR2
  have hV := fun w => rValRule k c f w
  generalize JM.errR k c f = er at hV hR2
  have HV := Lib.hid hV
  have HR := Lib.hid hR2
  have H1 := Lib.hid h1
  have H2 := Lib.hid h2
  have H3 := Lib.hid h3
  have H4 := Lib.hid h4
  have HJ := Lib.hid (hj.below hB)
  have HRr := Lib.hid (hr.below hB)
  have HE := Lib.hid (hw.below hB)
  have HB := Lib.hid hB
  have HP := Lib.hid hP
  clear hV hR2 h1 h2 h3 h4 hj hr hw
  obtain ⟨_, p0, p1, p2, p3, p4, p5, p6, p7, p8⟩ := hP
  cases a1
  · have e := Lib.hid (show R = 9 by rw [HR.out]; rfl)
    go_enter Try.func18, Try.ntmps18
    go_wp2_with fail
    refine (H1.out _ HJ.out).mono ?_
    rintro e w2 ⟨rfl, rfl⟩
    go_wp2
    go_ret
    rw [e.out]
    exact ⟨rfl, HB.out⟩
  cases a2
  · have e := Lib.hid (show R = 9 by rw [HR.out]; rfl)
    go_enter Try.func18, Try.ntmps18
    go_wp2_with fail
    refine (H1.out _ HJ.out).mono ?_
    rintro e w2 ⟨rfl, rfl⟩
    go_wp2_with fail
    refine (H2.out _ HRr.out).mono ?_
    rintro e w2 ⟨rfl, rfl⟩
    go_wp2
    go_ret
    rw [e.out]
    exact ⟨rfl, HB.out⟩
  cases a3
  · have e := Lib.hid (show R = 7 by rw [HR.out]; rfl)
    go_enter Try.func18, Try.ntmps18
    go_wp2_with fail
    refine (H1.out _ HJ.out).mono ?_
    rintro e w2 ⟨rfl, rfl⟩
    go_wp2_with fail
    refine (H2.out _ HRr.out).mono ?_
    rintro e w2 ⟨rfl, rfl⟩
    go_wp2_with fail
    refine (H3.out _ HJ.out).mono ?_
    rintro e w2 ⟨rfl, hb⟩
    go_wp2
    go_ret
    rw [e.out]
    exact ⟨rfl, bnext HB.out hb⟩
  cases a4
  · have e := Lib.hid (show R = 7 by rw [HR.out]; rfl)
    go_enter Try.func18, Try.ntmps18
    go_wp2_with fail
    refine (H1.out _ HJ.out).mono ?_
    rintro e w2 ⟨rfl, rfl⟩
    go_wp2_with fail
    refine (H2.out _ HRr.out).mono ?_
    rintro e w2 ⟨rfl, rfl⟩
    go_wp2_with fail
    refine (H3.out _ HJ.out).mono ?_
    rintro e w2 ⟨rfl, hb⟩
    obtain ⟨_, q0, q1, q2, q3, q4, q5, q6, q7, q8⟩ := HP.out.below hb
    go_wp2_with fail
    refine (H4.out _ (HRr.out.below hb)).mono ?_
    rintro e w3 ⟨rfl, hb3⟩
    go_wp2
    go_ret
    rw [e.out]
    exact ⟨rfl, bnext HB.out (bnext hb hb3)⟩
  obtain ⟨Z, hZ⟩ : ∃ Z : Int, (if ¬ (k = 0 ∧ c = 0 ∧ f = 0) ∧ er ≠ 0 then er else if (v < 0 ∨ a < 0 ∨ n < 0) ∨ ((k = 0 ∧ c = 0 ∧ f = 0) ∧ ¬ (v = 0 ∧ a = 0 ∧ n = 0)) then 9 else 0) = Z := ⟨_, rfl⟩
  have HR0 := Lib.hid (show R = MM.or2 (MM.errW (prevW W 0) (W.drop 0)) Z by rw [HR.out, hZ]; rfl)
  have HZ := Lib.hid hZ
  clear HR hZ
  go_enter Try.func18, Try.ntmps18
  go_wp2_with fail
  refine (H1.out _ HJ.out).mono ?_
  rintro e w2 ⟨rfl, rfl⟩
  go_wp2_with fail
  refine (H2.out _ HRr.out).mono ?_
  rintro e w2 ⟨rfl, rfl⟩
  go_wp2_with fail
  refine (H3.out _ HJ.out).mono ?_
  rintro e w2 ⟨rfl, hb⟩
  obtain ⟨_, q0, q1, q2, q3, q4, q5, q6, q7, q8⟩ := HP.out.below hb
  go_wp2_with fail
  refine (H4.out _ (HRr.out.below hb)).mono ?_
  rintro e w3 ⟨rfl, hb3⟩
  have HB3 := Lib.hid (bnext HB.out (bnext hb hb3))
  have HP3 := Lib.hid (HP.out.below (bnext hb hb3))
  have HE3 := Lib.hid (HE.out.below (bnext hb hb3))
  clear hb hb3 q0 q1 q2 q3 q4 q5 q6 q7 q8 p0 p1 p2 p3 p4 p5 p6 p7 p8 hw1
  obtain ⟨_, p0, p1, p2, p3, p4, p5, p6, p7, p8⟩ := HP3.out
  go_wp2
  go_loopw [3] (fun i wr => ∃ j : Nat, j ≤ W.length ∧ i = .int .i64 j ∧ Below w3.heap.size w3 wr ∧ Hid (R = MM.or2 (MM.errW (prevW W j) (W.drop j)) Z)) (fun i _ => W.length - (intOf i).toNat)
  case atStart => exact ⟨0, Nat.zero_le _, rfl, Below.refl _ _, HR0⟩
  case round =>
    obtain ⟨j, hj, rfl, hbl, he⟩ := hrel
    clear HR0 p0 p1 p2 p3 p4 p5 p6 p7 p8
    obtain ⟨_, p0, p1, p2, p3, p4, p5, p6, p7, p8⟩ := HP3.out.below hbl
    by_cases hlt : j < W.length
    · obtain ⟨⟨sx, t, vv, aa, nn⟩, hx⟩ : ∃ e, e = W[j] := ⟨_, rfl⟩
      obtain ⟨b, o, hi, hbb, c0, c1, c2, c3, c4⟩ := atW (HE3.out.below hbl) j sx t vv aa nn (by rw [hx]; exact List.getElem?_eq_getElem hlt)
      have hq : (j : Int) < (W.length : Int) := by omega
      have hd := Lib.hid (show W.drop j = (sx, t, vv, aa, nn) :: W.drop (j + 1) by rw [drop_get hlt, hx])
      have hp := Lib.hid (show prevW W (j + 1) = sx from prevW_succ (by rw [List.getElem?_eq_getElem hlt, ← hx]))
      have hfr := below_fresh wr (.cells #[.int .i64 sx, .int .i64 t, .int .i64 vv, .int .i64 aa, .int .i64 nn] 69)
      have HS := Lib.hid (fun w => rServer sx w)
      have hs1 := JM.isSrv_iff (x := sx)
      have e1 := Lib.hid (show R = MM.or2 (if (!JM.isSrv sx || decide (t < 1) || decide (9 < t) || MM.neg (vv, aa, nn)) = true then 9 else if sx ≤ prevW W j then 7 else MM.errW (prevW W (j + 1)) (W.drop (j + 1))) Z by rw [he.out, hd.out, errW_cons, hp.out]; rfl)
      have HY := Lib.hid (bnext hbl hfr)
      clear he hd
      generalize hwn : wr.alloc (.cells #[.int .i64 sx, .int .i64 t, .int .i64 vv, .int .i64 aa, .int .i64 nn] 69) = wn at HY hfr
      obtain ⟨x0, x1, x2, x3, x4⟩ : wn.cell? ⟨wr.heap.size, 0, none⟩ = some (.int .i64 sx) ∧ wn.cell? ⟨wr.heap.size, 1, none⟩ = some (.int .i64 t) ∧ wn.cell? ⟨wr.heap.size, 2, none⟩ = some (.int .i64 vv) ∧ wn.cell? ⟨wr.heap.size, 3, none⟩ = some (.int .i64 aa) ∧ wn.cell? ⟨wr.heap.size, 4, none⟩ = some (.int .i64 nn) := by
        rw [← hwn]; exact WBox.fresh wr _ sx t vv aa nn
      obtain ⟨_, r0, r1, r2, r3, r4, r5, r6, r7, r8⟩ := (HP3.out.below hbl).below hfr
      generalize JM.isSrv sx = bs at HS e1 hs1
      by_cases hbad : bs = false ∨ t < 1 ∨ 9 < t ∨ vv < 0 ∨ aa < 0 ∨ nn < 0
      · have e2 := Lib.hid (show R = 9 by
          rw [e1.out, if_pos]
          · rfl
          · simp only [MM.neg]; rcases hbad with h | h | h | h | h | h <;> simp [h])
        clear e1 hs1
        cases bs
        · clear hbad
          go_wp2_with (go_at_call 46; refine (HS.out _).mono ?_; rintro e w4 ⟨rfl, rfl⟩)
          go_ret
          rw [e2.out]
          exact ⟨rfl, bnext HB3.out HY.out⟩
        · simp only [reduceCtorEq, false_or] at hbad
          go_wp2_with (go_at_call 46; refine (HS.out _).mono ?_; rintro e w4 ⟨rfl, rfl⟩)
          all_goals first
            | (exfalso; omega)
            | (go_ret; rw [e2.out]; exact ⟨rfl, bnext HB3.out HY.out⟩)
      · have hbt : bs = true := by cases bs <;> simp_all
        subst hbt
        simp only [reduceCtorEq, false_or] at hbad
        have g1 : ¬ t < 1 := by omega
        have g2 : ¬ 9 < t := by omega
        have g3 : ¬ vv < 0 := by omega
        have g4 : ¬ aa < 0 := by omega
        have g5 : ¬ nn < 0 := by omega
        have hsx := hs1.1 rfl
        have e2 := Lib.hid (show R = MM.or2 (if sx ≤ prevW W j then 7 else MM.errW (prevW W (j + 1)) (W.drop (j + 1))) Z by
          rw [e1.out, if_neg]
          unfold MM.neg; simp; omega)
        clear e1 hs1 hbad
        by_cases h0 : j = 0
        · subst h0
          have e3 := Lib.hid (show R = MM.or2 (MM.errW (prevW W (0 + 1)) (W.drop (0 + 1))) Z by rw [e2.out, if_neg (by show ¬ sx ≤ 0; omega)])
          have hi0 : ∀ w0 : World, (Instr.indexAt 32 (.slice adw W.length cw) (.int .i64 0)).run Try.prog w0 = .ok (.pointer (some ⟨b, o, none⟩)) w0 := hi
          have hq0 : (0 : Int) < (W.length : Int) := hq
          clear e2 hp hi hq
          go_wp2_with (go_at_call 46; refine (HS.out _).mono ?_; rintro e w4 ⟨rfl, rfl⟩)
          go_quiet (fail)
          go_wp2
          go_roundw
          case rel => exact ⟨0 + 1, by omega, by go_num, HY.out.trans (below_drewN _ _ _), e3⟩
          case measure => simp [intOf]; omega
        · have hk1 : (0 : Int) < (j : Int) := by omega
          have hk2 : 0 < j := by omega
          have hkl : j - 1 < W.length := by omega
          obtain ⟨⟨sy, t', v', a', n'⟩, hy⟩ : ∃ e, e = W[j - 1] := ⟨_, rfl⟩
          obtain ⟨b2, o2, hi2, hb2, d0, d1, d2, d3, d4⟩ := atW ((HE3.out.below hbl).below hfr) (j - 1) sy t' v' a' n' (by rw [hy]; exact List.getElem?_eq_getElem hkl)
          have hpk := Lib.hid (show prevW W j = sy by simp [prevW, h0, List.getD, List.getElem?_eq_getElem hkl, ← hy])
          rw [show ((j - 1 : Nat) : Int) = (j : Int) - 1 by omega] at hi2
          by_cases hxy : sx ≤ sy
          · have e3 := Lib.hid (show R = 7 by rw [e2.out, hpk.out, if_pos hxy]; rfl)
            clear e2 hp hpk
            go_wp2_with (go_at_call 46; refine (HS.out _).mono ?_; rintro e w4 ⟨rfl, rfl⟩)
            go_quiet (fail)
            go_wp2
            go_ret
            rw [e3.out]
            exact ⟨rfl, bnext HB3.out (HY.out.trans (below_drewN _ _ _))⟩
          · have e3 := Lib.hid (show R = MM.or2 (MM.errW (prevW W (j + 1)) (W.drop (j + 1))) Z by rw [e2.out, hpk.out, if_neg hxy])
            clear e2 hp hpk
            go_wp2_with (go_at_call 46; refine (HS.out _).mono ?_; rintro e w4 ⟨rfl, rfl⟩)
            go_quiet (fail)
            go_wp2
            go_roundw
            case rel => exact ⟨j + 1, by omega, by go_num, HY.out.trans (below_drewN _ _ _), e3⟩
            case measure => simp [intOf]; omega
    · have hq : ¬ ((j : Int) < (W.length : Int)) := by omega
      have e2 := Lib.hid (show R = Z by rw [he.out, List.drop_of_length_le (by omega)]; rfl)
      have HBL := Lib.hid (bnext HB3.out hbl)
      have HPB := Lib.hid (HP3.out.below hbl)
      clear he hbl
      have h4 : k ≠ 0 ∨ (k = 0 ∧ c ≠ 0) ∨ (k = 0 ∧ c = 0 ∧ f ≠ 0) ∨ (k = 0 ∧ c = 0 ∧ f = 0) := by omega
      have HFIN : Hid (∀ r : Int, (if ¬ (k = 0 ∧ c = 0 ∧ f = 0) ∧ er ≠ 0 then er else if (v < 0 ∨ a < 0 ∨ n < 0) ∨ ((k = 0 ∧ c = 0 ∧ f = 0) ∧ ¬ (v = 0 ∧ a = 0 ∧ n = 0)) then 9 else 0) = r → R = r) := Lib.hid (fun r hr => by rw [e2.out, ← HZ.out, hr])
      clear HZ e2
      rcases h4 with hk | ⟨rfl, hk⟩ | ⟨rfl, rfl, hk⟩ | ⟨rfl, rfl, rfl⟩
      iterate 3
        · by_cases he0 : er = 0
          · subst he0
            go_wp2_with fail
            refine (HV.out _).mono ?_
            rintro e w4 ⟨rfl, hb4⟩
            have HB4 := Lib.hid (bnext HBL.out hb4)
            obtain ⟨_, q0, q1, q2, q3, q4, q5, q6, q7, q8⟩ := HPB.out.below hb4
            clear hb4
            go_wp2
            all_goals
              go_ret
              refine ⟨ret_int (HFIN.out _ ?_).symm, HB4.out⟩
              (repeat' split) <;> (first | omega | (rename_i h; exact absurd rfl h.2) | (rename_i h; exact absurd trivial h.2))
          · have hne : (er != 0) = true := bne_t he0
            go_wp2_with fail
            refine (HV.out _).mono ?_
            rintro e w4 ⟨rfl, hb4⟩
            have HB4 := Lib.hid (bnext HBL.out hb4)
            clear hb4
            go_wp2
            go_ret
            exact ⟨ret_int (HFIN.out _ (by simp [hk, he0])).symm, HB4.out⟩
      · go_wp2
        all_goals
          go_ret
          refine ⟨ret_int (HFIN.out _ ?_).symm, HBL.out⟩
          rename_i hlast
          (try simp only [bne_iff_ne, ne_eq, bne_eq_false_iff_eq] at hlast)
          rw [if_neg (fun h => h.1 ⟨trivial, trivial, trivial⟩)]
          split
          · rename_i h5
            first
              | rfl
              | (exfalso; rcases h5 with h5 | ⟨_, h5⟩ <;> omega)
          · rename_i h5
            first
              | rfl
              | (exfalso; exact h5 (.inl (by omega)))
              | (exfalso; exact h5 (.inr ⟨⟨trivial, trivial, trivial⟩, by omega⟩))
              | (exfalso; rcases hlast with hlast | hlast; exact h5 (.inl (by omega)); exact h5 (.inr ⟨⟨trivial, trivial, trivial⟩, by omega⟩))

end Go.Proofs.Ytdipheijagjelaa
