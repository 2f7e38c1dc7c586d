/-
  The library's search with a comparison at entries of weights, and weightOf: the weight of a server in a summary. Conditions: the summary reads, its weights ascend and are few.
-/
import Derived.Test.YtkaafbdhgekeeaaGreatMBs
namespace Go.Proofs.YtkaafbdhgekeeaaGreat
open Go.RowKit
open MM (Mem Ent Sm Tri)

theorem cCmpBW' (s t v a n s' t' v' a' n' : Int) (w : World) : Calls Tryz.prog 49 #[wv s t v a n, wv s' t' v' a' n'] w fun e w' => e = .returned (.int .i64 (cmpI s s')) ∧ Below w.heap.size w w' := cCompareServers s t v a n s' t' v' a' n' w
set_option maxRecDepth 100000 in
set_option maxHeartbeats 4000000 in
theorem cSearchW (v : Value) (xs : List Ent) (t1 t2 t3 t4 t5 : Int) (w : World) (h : RdW w v xs) (hs : MM.Srt MM.kW xs) (hl : xs.length ≤ 1000000) :
    Calls Tryz.prog 63 #[v, wv t1 t2 t3 t4 t5, .func (.func 49) #[] #[]] w
      fun e w' => ∃ i : Nat, e = .returned (.tuple #[.int .i64 i, .bool (fndK MM.kW xs t1 i)]) ∧ AtK MM.kW xs t1 i ∧ Below w.heap.size w w' := by
  obtain ⟨ad, cap, rfl, hc, _⟩ := h.shape
  have hb0 := below_fresh w (.cells #[.int .i64 t1, .int .i64 t2, .int .i64 t3, .int .i64 t4, .int .i64 t5] 62)
  have hP0 := WBox.fresh w 62 t1 t2 t3 t4 t5
  have H := Lib.hid (h.below hb0)
  have HV := Lib.hid hs
  clear h hs
  obtain ⟨w0, hw0⟩ : ∃ w0, w.alloc (.cells #[.int .i64 t1, .int .i64 t2, .int .i64 t3, .int .i64 t4, .int .i64 t5] 62) = w0 := ⟨_, rfl⟩
  rw [hw0] at hb0 hP0 H
  have HP := Lib.hid hP0
  have HB := Lib.hid hb0
  have HW := Lib.hid hw0
  clear hw0 hb0 hP0
  go_enter Tryz.func63, Tryz.ntmps63
  go_wp2
  rw [HW.out]
  obtain ⟨B, hBe⟩ : ∃ B, B = w.heap.size := ⟨_, rfl⟩
  rw [← hBe] at HP ⊢
  have HBE := Lib.hid hBe
  clear hBe
  go_loopw [9, 10] (fun i j wr => ∃ p q : Nat, p ≤ q ∧ q ≤ xs.length ∧ i = .int .i64 p ∧ j = .int .i64 q ∧ Below w0.heap.size w0 wr ∧ Hid (∀ k e, xs[k]? = some e → k < p → MM.kW e < t1) ∧ Hid (∀ k e, xs[k]? = some e → q ≤ k → t1 ≤ MM.kW e)) (fun i j _ => (intOf j - intOf i).toNat)
  case atStart => exact ⟨0, xs.length, Nat.zero_le _, Nat.le_refl _, rfl, rfl, Below.refl _ _, Lib.hid (by intro k e _ h; omega), Lib.hid (by intro k e hk h; have := (List.getElem?_eq_some_iff.1 hk).1; omega)⟩
  case round =>
    obtain ⟨p, q, hpq, hq, rfl, rfl, hbl, hlo, hhi⟩ := hrel
    obtain ⟨r0, r1, r2, r3, r4⟩ := HP.out
    have z0 := fun p : Later wr => below_cell p.h (below_cell hbl r0)
    have z1 := fun p : Later wr => below_cell p.h (below_cell hbl r1)
    have z2 := fun p : Later wr => below_cell p.h (below_cell hbl r2)
    have z3 := fun p : Later wr => below_cell p.h (below_cell hbl r3)
    have z4 := fun p : Later wr => below_cell p.h (below_cell hbl r4)
    clear r0 r1 r2 r3 r4
    by_cases hlt : p < q
    · have hq1 : (p : Int) < (q : Int) := by omega
      have hmid : (p + q) / 2 < xs.length := by omega
      have hg := List.getElem?_eq_getElem hmid
      generalize xs[(p + q) / 2] = en at hg
      obtain ⟨y1, y2, y3, y4, y5⟩ := en
      obtain ⟨b, o, hi, hb, c0, c1, c2, c3, c4⟩ := atW (H.out.below hbl) ((p + q) / 2) _ _ _ _ _ hg
      rw [show (((p + q) / 2 : Nat) : Int) = ((p : Int) + (q : Int)) / 2 by omega] at hi
      have k0 := fun p : Later wr => below_cell p.h c0
      have k1 := fun p : Later wr => below_cell p.h c1
      have k2 := fun p : Later wr => below_cell p.h c2
      have k3 := fun p : Later wr => below_cell p.h c3
      have k4 := fun p : Later wr => below_cell p.h c4
      have hC := fun p : Later wr => Calls.later (cCmpBW' y1 y2 y3 y4 y5 t1 t2 t3 t4 t5 p.val)
      by_cases hx : y1 < t1
      · have hlo2 := Lib.hid (show ∀ k e, xs[k]? = some e → k < (p + q) / 2 + 1 → MM.kW e < t1 from fun k e hk hkl => by
          by_cases hkm : k = (p + q) / 2
          · subst hkm
            rw [hg] at hk
            cases hk
            exact hx
          · have h2 : MM.kW e < y1 := srt_lt HV.out hk hg (by omega)
            omega)
        rw [show cmpI y1 t1 = -1 from if_pos hx] at hC
        have HC := Lib.hid hC
        clear hlo hg hC c0 c1 c2 c3 c4
        go_wp2
        refine wp_region_later (by kernel_rfl) (by kernel_rfl) ?_
        repeat (go_big_quiet_step (first | (with_reducible exact HC.out _)))
        refine wpQuiet_nil ?_
        rintro _ ⟨p', rfl⟩
        have HB2 := Lib.hid (bnext hbl p'.h)
        generalize p'.val = w2 at HB2 ⊢
        clear k0 k1 k2 k3 k4 z0 z1 z2 z3 z4 HC hbl
        go_wp2
        go_roundw
        case rel => exact ⟨(p + q) / 2 + 1, q, by omega, hq, vint (by omega), rfl, HB2.out, hlo2, hhi⟩
        case measure => simp [intOf]; omega
      · have hhi2 := Lib.hid (show ∀ k e, xs[k]? = some e → (p + q) / 2 ≤ k → t1 ≤ MM.kW e from fun k e hk hkl => by
          by_cases hkm : k = (p + q) / 2
          · subst hkm
            rw [hg] at hk
            cases hk
            show t1 ≤ y1; omega
          · have h2 : y1 < MM.kW e := srt_lt HV.out hg hk (by omega)
            omega)
        have hxx : ¬ cmpI y1 t1 < 0 := by unfold cmpI; rw [if_neg hx]; split <;> omega
        generalize cmpI y1 t1 = C at hC hxx
        have HC := Lib.hid hC
        clear hhi hg hC c0 c1 c2 c3 c4
        go_wp2
        refine wp_region_later (by kernel_rfl) (by kernel_rfl) ?_
        repeat (go_big_quiet_step (first | (with_reducible exact HC.out _)))
        refine wpQuiet_nil ?_
        rintro _ ⟨p', rfl⟩
        have HB2 := Lib.hid (bnext hbl p'.h)
        generalize p'.val = w2 at HB2 ⊢
        clear k0 k1 k2 k3 k4 z0 z1 z2 z3 z4 HC hbl
        go_wp2
        go_roundw
        case rel => exact ⟨p, (p + q) / 2, by omega, by omega, rfl, vint (by omega), HB2.out, hlo, hhi2⟩
        case measure => simp [intOf]; omega
    · obtain rfl : p = q := by omega
      have hq1 : ¬ ((p : Int) < (p : Int)) := by omega
      have hat := Lib.hid (show AtK MM.kW xs t1 p from ⟨hq, hlo.out, hhi.out⟩)
      by_cases hpn : p < xs.length
      · have hpi : (p : Int) < (xs.length : Int) := by omega
        have hg := List.getElem?_eq_getElem hpn
        generalize xs[p] = en at hg
        obtain ⟨y1, y2, y3, y4, y5⟩ := en
        obtain ⟨b, o, hi, hb, c0, c1, c2, c3, c4⟩ := atW (H.out.below hbl) p _ _ _ _ _ hg
        have k0 := fun p : Later wr => below_cell p.h c0
        have k1 := fun p : Later wr => below_cell p.h c1
        have k2 := fun p : Later wr => below_cell p.h c2
        have k3 := fun p : Later wr => below_cell p.h c3
        have k4 := fun p : Later wr => below_cell p.h c4
        have hC := fun p : Later wr => Calls.later (cCmpBW' y1 y2 y3 y4 y5 t1 t2 t3 t4 t5 p.val)
        have hf := Lib.hid (show fndK MM.kW xs t1 p = (cmpI y1 t1 == 0) by
          unfold fndK; rw [hg]; show decide (y1 = t1) = _; unfold cmpI
          by_cases h1 : y1 < t1
          · rw [if_pos h1, decide_eq_false (by omega)]; rfl
          · rw [if_neg h1]
            by_cases h2 : t1 < y1
            · rw [if_pos h2, decide_eq_false (by omega)]; rfl
            · rw [if_neg h2, decide_eq_true (by omega)]; rfl)
        generalize cmpI y1 t1 = C at hC hf
        have HC := Lib.hid hC
        clear hlo hhi hg hC c0 c1 c2 c3 c4
        go_wp2
        refine wp_region_later (by kernel_rfl) (by kernel_rfl) ?_
        repeat (go_big_quiet_step (first | (with_reducible exact HC.out _)))
        refine wpQuiet_nil ?_
        rintro _ ⟨p', rfl⟩
        have HB2 := Lib.hid (HB.out.trans ((bnext hbl p'.h).mono HB.out.size))
        generalize p'.val = w2 at HB2 ⊢
        go_wp2
        go_ret2
        exact ⟨p, by rw [hf.out]; rfl, hat.out, HB2.out⟩
      · have hpi : ¬ ((p : Int) < (xs.length : Int)) := by omega
        have hf := Lib.hid (show fndK MM.kW xs t1 p = false by unfold fndK; rw [List.getElem?_eq_none (by omega)])
        have HB2 := Lib.hid (HB.out.trans (hbl.mono HB.out.size))
        clear hlo hhi
        go_wp2
        go_quiet (fail)
        go_wp2
        go_ret2
        exact ⟨p, by rw [hf.out]; rfl, hat.out, HB2.out.trans (below_drewN _ _ _)⟩

set_option maxRecDepth 100000 in
set_option maxHeartbeats 2000000 in
theorem cWeightOf (x : Value) (s : Sm) (a : Int) (w : World) (h : RdS w x s) (hs : MM.Srt MM.kW s.W) (hl : s.W.length ≤ 1000000) :
    Calls Tryz.prog 32 #[x, .int .i64 a] w fun e w' => e = .returned (.int .i64 (MM.wtOf s.W a)) ∧ Below w.heap.size w w' := by
  obtain ⟨vj, vr, vx, rfl, hj, hr, hw⟩ := h
  obtain ⟨J, R', W, k, c, f, v, aa, n⟩ := s
  dsimp only at *
  have hB := below_fresh w (.cells #[vj, vr, vx, .int .i64 k, .int .i64 c, .int .i64 f, .int .i64 v, .int .i64 aa, .int .i64 n] 37)
  have hP := B9.fresh w 37 vj vr vx k c f v aa n
  obtain ⟨aw, cw, rfl, hcw, hlw⟩ := hw.shape
  generalize hw1 : w.alloc (.cells #[vj, vr, .slice aw W.length cw, .int .i64 k, .int .i64 c, .int .i64 f, .int .i64 v, .int .i64 aa, .int .i64 n] 37) = w1 at hB hP
  obtain ⟨R, hR⟩ : ∃ R, R = MM.wtOf W a := ⟨_, rfl⟩
  rw [← hR]
  have HR := Lib.hid hR
  have HW1 := Lib.hid hw1
  have HB := Lib.hid hB
  have HP := Lib.hid hP
  have HE := Lib.hid (hw.below hB)
  have HC := Lib.hid (cSearchW (.slice aw W.length cw) W a 0 0 0 0 w1 (hw.below hB) hs hl)
  have HS := Lib.hid hs
  obtain ⟨_, p0, p1, p2, p3, p4, p5, p6, p7, p8⟩ := hP
  clear hR hw1 hB hw hj hr hs
  go_enter Tryz.func32, Tryz.ntmps32
  go_wp2_with fail
  rw [HW1.out]
  go_wp2_with fail
  refine HC.out.mono ?_
  rintro e w2 ⟨i, rfl, hat, hb2⟩
  have hfk := fndK_lk HS.out hat
  clear p0 p1 p2 p3 p4 p5 p6 p7 p8
  obtain ⟨_, p0, p1, p2, p3, p4, p5, p6, p7, p8⟩ := HP.out.below hb2
  have HB2 := Lib.hid (bnext HB.out hb2)
  generalize fndK MM.kW W a i = fd at hfk ⊢
  cases fd
  · have e2 := Lib.hid (show R = 1 by rw [HR.out]; unfold MM.wtOf; rw [hfk.2 rfl])
    clear hfk hat
    go_wp2
    go_ret
    rw [e2.out]
    exact ⟨rfl, HB2.out⟩
  · obtain ⟨⟨e1, e2, e3, e4, e5⟩, hi, hlk⟩ := hfk.1.1 rfl
    have e2 := Lib.hid (show R = e2 by rw [HR.out]; unfold MM.wtOf; rw [hlk])
    obtain ⟨b, o, hix, hb, c0, c1, c2, c3, c4⟩ := atW (HE.out.below hb2) i _ _ _ _ _ hi
    have hil := (List.getElem?_eq_some_iff.1 hi).1
    have hil2 : (i : Int) < (W.length : Int) := by omega
    clear hfk hat hi hlk
    go_wp2
    go_ret
    rw [e2.out]
    exact ⟨rfl, HB2.out⟩

end Go.Proofs.YtkaafbdhgekeeaaGreat
