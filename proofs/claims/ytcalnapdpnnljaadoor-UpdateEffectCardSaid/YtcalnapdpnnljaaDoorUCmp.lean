/-
  The calls of update.Compare, Before, slices.Equal at effects, update.Equal. Conditions: the effects read.
-/
import Derived.StillTailTactics
import Derived.Test.YtcalnapdpnnljaaDoorKD
import Derived.Test.YtcalnapdpnnljaaDoorURef2
import Derived.Test.YtcalnapdpnnljaaDoorURef5
namespace Go.Proofs.YtcalnapdpnnljaaDoor
open Go.RowKit
open UM (Ef)

namespace UM
theorem cmpU_or (c q d r : Int) : (if cmpI c d ≠ 0 then cmpI c d else cmpI q r) = cmpU c q d r := by
  unfold cmpI cmpU; (repeat' split) <;> omega
theorem cmpU_zeroC {c q d r : Int} : cmpU c q d r = 0 ↔ c = d ∧ q = r := by
  unfold cmpU; (repeat' split) <;> omega
theorem bef_or (c q t d r y : Int) : decide ((if cmpI t y ≠ 0 then cmpI t y else cmpU c q d r) < 0) = bef c q t d r y := by
  unfold bef
  apply decide_eq_decide.2
  generalize cmpU c q d r = Z
  unfold cmpI; (repeat' split) <;> omega
end UM

/-- The two boxes of two updates. -/
structure Box2 (w w1 : World) (c q t d r y : Int) (u v : Value) : Prop where
  eq : (w.alloc (.cells #[.int .i64 c, .int .i64 q, .int .i64 t, u] 30)).alloc (.cells #[.int .i64 d, .int .i64 r, .int .i64 y, v] 30) = w1
  a : OU w1 w.heap.size c q t u
  b : OU w1 (w.heap.size + 1) d r y v
  below : Below w.heap.size w w1
theorem box2 (w : World) (c q t d r y : Int) (u v : Value) : ∃ w1, Box2 w w1 c q t d r y u v := by
  have b1 := below_fresh w (.cells #[.int .i64 c, .int .i64 q, .int .i64 t, u] 30)
  have o1 := OU.fresh w c q t u
  have z1 := World.size_alloc w (.cells #[.int .i64 c, .int .i64 q, .int .i64 t, u] 30)
  have b2 := below_fresh (w.alloc (.cells #[.int .i64 c, .int .i64 q, .int .i64 t, u] 30)) (.cells #[.int .i64 d, .int .i64 r, .int .i64 y, v] 30)
  have o2 := OU.fresh (w.alloc (.cells #[.int .i64 c, .int .i64 q, .int .i64 t, u] 30)) d r y v
  rw [z1] at o2
  exact ⟨_, rfl, o1.below b2, o2, bnext b1 b2⟩

set_option maxRecDepth 100000 in
set_option maxHeartbeats 1000000 in
theorem uCompare (c q t : Int) (u : Value) (d r y : Int) (v : Value) (w : World) (hu : ∃ a l k, u = .slice a l k) (hv : ∃ a l k, v = .slice a l k) :
    Calls Tryd.prog 18 #[uv c q t u, uv d r y v] w fun e w' => e = .returned (.int .i64 (UM.cmpU c q d r)) ∧ Below w.heap.size w w' := by
  obtain ⟨ua, ul, uc, rfl⟩ := hu
  obtain ⟨va, vl, vc, rfl⟩ := hv
  obtain ⟨w1, H⟩ := box2 w c q t d r y (.slice ua ul uc) (.slice va vl vc)
  have HW := Lib.hid H.eq
  have HB := Lib.hid H.below
  obtain ⟨p0, p1, p2, p3, _⟩ := H.a.cells
  obtain ⟨q0, q1, q2, q3, _⟩ := H.b.cells
  have H1 := Lib.hid (cCmp c d)
  have H2 := Lib.hid (cCmp q r)
  have e := Lib.hid (UM.cmpU_or c q d r)
  generalize cmpI c d = X at H1 e
  generalize cmpI q r = Y at H2 e
  generalize UM.cmpU c q d r = R at e
  clear H
  go_enter Tryd.func18, Tryd.ntmps18
  go_upto_region 1 with fail
  rw [HW.out]
  refine wp_region_still_tail 10 (by kernel_rfl) (by kernel_rfl) ?_
  simp only [List.take_succ_cons, List.take_zero, List.drop_succ_cons, List.drop_zero]
  iterate 4 still_step
  still_call (H1.out _)
  iterate 4 still_step
  still_call (H2.out _)
  refine wpStill_nil ?_
  change wpList _ _ _ _ _ w1.drew
  have HB2 := Lib.hid (HB.out.drew)
  clear p0 p1 p2 p3 q0 q1 q2 q3
  generalize w1.drew = w2 at HB2 ⊢
  have hb3 := below_fresh w2 (.cells #[.int .i64 X, .int .i64 Y] 3)
  go_wp2_with fail
  refine (cOr w2.heap.size X Y _ (by simp [World.cell?_alloc_new]) (by simp [World.cell?_alloc_new])).mono ?_
  rintro e w4 ⟨rfl, rfl⟩
  rw [e.out]
  go_wp2
  go_ret
  exact ⟨rfl, bnext HB2.out hb3⟩

set_option maxRecDepth 100000 in
set_option maxHeartbeats 4000000 in
theorem uBefore (c q t : Int) (u : Value) (d r y : Int) (v : Value) (w : World) (hu : ∃ a l k, u = .slice a l k) (hv : ∃ a l k, v = .slice a l k) :
    Calls Tryd.prog 20 #[uv c q t u, uv d r y v] w fun e w' => e = .returned (.bool (UM.bef c q t d r y)) ∧ Below w.heap.size w w' := by
  have HC := Lib.hid (fun w' => uCompare c q t u d r y v w' hu hv)
  obtain ⟨ua, ul, uc, rfl⟩ := hu
  obtain ⟨va, vl, vc, rfl⟩ := hv
  obtain ⟨w1, H⟩ := box2 w c q t d r y (.slice ua ul uc) (.slice va vl vc)
  have HW := Lib.hid H.eq
  have HB := Lib.hid H.below
  have HX := Lib.hid H.a
  have HY := Lib.hid H.b
  have H1 := Lib.hid (cCmp t y)
  have e := Lib.hid (UM.bef_or c q t d r y)
  generalize UM.bef c q t d r y = R at e
  generalize cmpI t y = X at H1 e
  generalize UM.cmpU c q d r = Y at HC e
  obtain ⟨Z, hZ⟩ : ∃ Z, (if X ≠ 0 then X else Y) = Z := ⟨_, rfl⟩
  rw [hZ] at e
  have HZ := Lib.hid hZ
  clear H hZ
  go_enter Tryd.func20, Tryd.ntmps20
  go_upto_region 1 with fail
  rw [HW.out]
  clear HW
  refine wp_region_held_drew (S := fun w' => Below w1.heap.size w1 w') (by kernel_rfl) ((Below.refl _ _).drew) (fun ha => ?_)
  replace ha : Below w1.heap.size w1 w1.drew := (Below.refl _ _).drew
  generalize w1.drew = wa at ha ⊢
  refine takeH (i := 0) (v := ?_) rfl (by kernel_rfl) (by kernel_rfl) (by kernel_rfl) (fun _ _ _ h => h) (Or.inl ⟨by rfl, ?_⟩) (by assumption) ?_
  rotate_left
  · (intro w hSw; (try dsimp only at hSw); go_simp; first | done | with_reducible rfl)
  (try simp only [Act.put, List.setIfInBounds_toArray, List.set_cons_zero, List.set_cons_succ])
  refine takeH (i := 2) (v := ?_) rfl (by kernel_rfl) (by kernel_rfl) (by kernel_rfl) (fun _ _ _ h => h) (Or.inl ⟨by rfl, ?_⟩) (by assumption) ?_
  rotate_left
  · (intro w hSw; (try dsimp only at hSw); go_simp; first | done | with_reducible rfl)
  (try simp only [Act.put, List.setIfInBounds_toArray, List.set_cons_zero, List.set_cons_succ])
  refine takeH (i := 1) (v := ?_) rfl (by kernel_rfl) (by kernel_rfl) (by kernel_rfl) (fun _ _ _ h => h) (Or.inl ⟨by rfl, ?_⟩) (by assumption) ?_
  rotate_left
  · (intro w hSw; (try dsimp only at hSw); obtain ⟨c0, c1, c2, c3, _⟩ := (HX.out.below hSw).cells; go_simp; first | done | with_reducible rfl)
  (try simp only [Act.put, List.setIfInBounds_toArray, List.set_cons_zero, List.set_cons_succ])
  refine takeH (i := 3) (v := ?_) rfl (by kernel_rfl) (by kernel_rfl) (by kernel_rfl) (fun _ _ _ h => h) (Or.inl ⟨by rfl, ?_⟩) (by assumption) ?_
  rotate_left
  · (intro w hSw; (try dsimp only at hSw); obtain ⟨d0, d1, d2, d3, _⟩ := (HY.out.below hSw).cells; go_simp; first | done | with_reducible rfl)
  (try simp only [Act.put, List.setIfInBounds_toArray, List.set_cons_zero, List.set_cons_succ])
  refine takeH (i := 5) (v := ?_) rfl (by kernel_rfl) (by kernel_rfl) (by kernel_rfl) (fun _ _ _ h => h) (Or.inl ⟨by rfl, ?_⟩) (by assumption) ?_
  rotate_left
  · (intro w hSw; (try dsimp only at hSw); obtain ⟨c0, c1, c2, c3, _⟩ := (HX.out.below hSw).cells; go_simp; first | done | with_reducible rfl)
  (try simp only [Act.put, List.setIfInBounds_toArray, List.set_cons_zero, List.set_cons_succ])
  refine takeH (i := 6) (v := ?_) rfl (by kernel_rfl) (by kernel_rfl) (by kernel_rfl) (fun _ _ _ h => h) (Or.inl ⟨by rfl, ?_⟩) (by assumption) ?_
  rotate_left
  · (intro w hSw; (try dsimp only at hSw); obtain ⟨d0, d1, d2, d3, _⟩ := (HY.out.below hSw).cells; go_simp; first | done | with_reducible rfl)
  (try simp only [Act.put, List.setIfInBounds_toArray, List.set_cons_zero, List.set_cons_succ])
  refine wpAnyH_ready (rs := [4]) (by kernel_rfl) (by simp) ?_
  refine stepH rfl (fun K hK => ?_) AllReadyH.nil
  go_simp
  refine (H1.out _).mono ?_
  rintro e wb ⟨rfl, rfl⟩
  go_wp2_with fail
  refine hK.out _ _ (ha) (fun _ => ?_)
  clear hK K
  (try simp only [Act.put, List.setIfInBounds_toArray, List.set_cons_zero, List.set_cons_succ])
  refine wpAnyH_ready (rs := [7]) (by kernel_rfl) (by simp) ?_
  refine stepH rfl (fun K hK => ?_) AllReadyH.nil
  go_simp
  refine (HC.out _).mono ?_
  rintro e wb ⟨rfl, hq⟩
  have hb := bnext ha hq
  go_wp2_with fail
  refine hK.out _ _ (hb) (fun _ => ?_)
  clear hK K
  (try simp only [Act.put, List.setIfInBounds_toArray, List.set_cons_zero, List.set_cons_succ])
  refine wpAnyH_ready (rs := [8]) (by kernel_rfl) (by simp) ?_
  refine stepH rfl (fun K hK => ?_) AllReadyH.nil
  go_simp
  have hc := bnext hb (below_fresh _ (.cells #[.int .i64 X, .int .i64 Y] 3))
  have hor := cOr wb.heap.size X Y (wb.alloc (.cells #[.int .i64 X, .int .i64 Y] 3)) (by simp [World.cell?_alloc_new]) (by simp [World.cell?_alloc_new])
  rw [HZ.out] at hor
  refine hK.out _ _ (hc) (fun _ => ?_)
  clear hK K
  (try simp only [Act.put, List.setIfInBounds_toArray, List.set_cons_zero, List.set_cons_succ])
  obtain ⟨wc , hwc ⟩ : ∃ wc , (wb).alloc (.cells #[.int .i64 X, .int .i64 Y] 3) = wc  := ⟨_, rfl⟩
  rw [hwc ] at hc hor ⊢
  clear hwc 
  refine wpAnyH_ready (rs := [9]) (by kernel_rfl) (by simp) ?_
  refine stepH rfl (fun K hK => ?_) AllReadyH.nil
  go_simp
  refine hor.mono ?_
  rintro e wd ⟨rfl, rfl⟩
  go_wp2_with fail
  refine hK.out _ _ (hc) (fun _ => ?_)
  clear hK K
  (try simp only [Act.put, List.setIfInBounds_toArray, List.set_cons_zero, List.set_cons_succ])
  refine takeH (i := 10) (v := ?_) rfl (by kernel_rfl) (by kernel_rfl) (by kernel_rfl) (fun _ _ _ h => h) (Or.inl ⟨by rfl, ?_⟩) (by assumption) ?_
  rotate_left
  · (intro w hSw; (try dsimp only at hSw); go_simp; first | done | with_reducible rfl)
  (try simp only [Act.put, List.setIfInBounds_toArray, List.set_cons_zero, List.set_cons_succ])
  refine takeH (i := 11) (v := ?_) rfl (by kernel_rfl) (by kernel_rfl) (by kernel_rfl) (fun _ _ _ h => h) (Or.inl ⟨by rfl, ?_⟩) (by assumption) ?_
  rotate_left
  · (intro w hSw; (try dsimp only at hSw); go_simp; first | done | with_reducible rfl)
  (try simp only [Act.put, List.setIfInBounds_toArray, List.set_cons_zero, List.set_cons_succ])
  refine wpAnyH_done (by kernel_rfl) ?_ _
  have HD := Lib.hid (bnext HB.out hc)
  clear ha hb hc hor
  rw [e.out]
  go_wp2
  go_ret
  exact ⟨rfl, HD.out⟩

set_option maxRecDepth 100000 in
set_option maxHeartbeats 1000000 in
theorem uEqualS (va vb : Value) (xs ys : List Ef) (w : World) (ha : RdEf w va xs) (hb : RdEf w vb ys) :
    Calls Tryd.prog 38 #[va, vb] w fun e w' => e = .returned (.bool (decide (xs = ys))) ∧ Below w.heap.size w w' := by
  obtain ⟨ad, c, rfl, hc, hl⟩ := ha.shape
  obtain ⟨bd, d, rfl, hd, hld⟩ := hb.shape
  have HA := Lib.hid ha
  have HB := Lib.hid hb
  clear ha hb
  by_cases hlen : xs.length = ys.length
  · obtain ⟨R, hR⟩ : ∃ R, R = decide (xs = ys) := ⟨_, rfl⟩
    rw [← hR]
    have HR := Lib.hid hR
    clear hR
    have HL := Lib.hid hlen
    have hq0 : ((xs.length : Int) != (ys.length : Int)) = false := by simp; omega
    rw [← hlen] at hq0 ⊢
    clear hlen
    have hm : Tryd.prog.eqGuardType Tryd.prog.depth 23 = false := by kernel_rfl
    go_enter Tryd.func38, Tryd.ntmps38
    go_wp2
    go_loopw [13] (fun i wr => ∃ k : Nat, k ≤ xs.length ∧ i = .int .i64 k ∧ Below w.heap.size w wr ∧ Hid (R = decide (xs.drop k = ys.drop k))) (fun i _ => xs.length - (intOf i).toNat)
    case atStart => exact ⟨0, Nat.zero_le _, rfl, Below.refl _ _, HR.out⟩
    case round =>
      obtain ⟨k, hk, rfl, hbl, he⟩ := hrel
      by_cases hlt : k < xs.length
      · have hlt2 : k < ys.length := by rw [← HL.out]; exact hlt
        have hatx := List.getElem?_eq_getElem hlt
        have haty := List.getElem?_eq_getElem hlt2
        have hdx := Lib.hid (drop_get hlt)
        have hdy := Lib.hid (drop_get hlt2)
        generalize xs[k] = y at hdx hatx
        obtain ⟨k', o', f', n', s'⟩ := y
        generalize ys[k] = z at hdy haty
        obtain ⟨kz, oz, fz, nz, sz⟩ := z
        obtain ⟨b, o, hi, hb, d0, d1, d2, d3, d4⟩ := atEf (HA.out.below hbl) k _ _ _ _ _ hatx
        obtain ⟨bb, oo, hi2, hb2, f0, f1, f2, f3, f4⟩ := atEf (HB.out.below hbl) k _ _ _ _ _ haty
        rw [← HL.out] at hi2
        have hq : (k : Int) < (xs.length : Int) := by omega
        clear HR hatx haty
        have hBB : ∃ B, B = decide ((k', o', f', n', s') = (kz, oz, fz, nz, sz)) := ⟨_, rfl⟩
        obtain ⟨B, hB⟩ := hBB
        have hneq := fun w' => neq_ev k' o' f' n' s' kz oz fz nz sz w'
        rw [← hB] at hneq
        have e0 := Lib.hid (show R = (B && decide (xs.drop (k + 1) = ys.drop (k + 1))) by
          rw [he.out, hdx.out, hdy.out, hB]
          rw [← Bool.decide_and]
          exact decide_eq_decide.2 List.cons_eq_cons)
        clear he hdx hdy hB
        cases B
        · have e2 := Lib.hid (e0.out.trans (Bool.false_and _))
          clear e0
          go_wp2
          go_quiet (fail)
          go_wp2
          go_ret
          rw [e2.out]
          exact ⟨rfl, hbl.trans (below_drewN _ _ _)⟩
        · have e2 := Lib.hid (e0.out.trans (Bool.true_and _))
          clear e0
          go_wp2
          go_quiet (fail)
          go_wp2
          go_roundw
          case rel => exact ⟨k + 1, by omega, by go_num, hbl.trans (below_drewN _ _ _), e2⟩
          case measure => simp [intOf]; omega
      · have hq : ¬ ((k : Int) < (xs.length : Int)) := by omega
        have e2 := Lib.hid (show R = true by rw [he.out, List.drop_of_length_le (by omega), List.drop_of_length_le (by rw [← HL.out]; omega)]; rfl)
        clear he HR
        go_wp2
        go_ret
        rw [e2.out]
        exact ⟨rfl, hbl⟩
  · have e2 := Lib.hid (show decide (xs = ys) = false from decide_eq_false fun h => hlen (by rw [h]))
    have hq0 : ((xs.length : Int) != (ys.length : Int)) = true := by simp; omega
    clear hlen HA HB
    go_enter Tryd.func38, Tryd.ntmps38
    go_wp2
    go_ret
    rw [e2.out]
    exact ⟨rfl, Below.refl _ _⟩

set_option maxRecDepth 100000 in
set_option maxHeartbeats 1000000 in
theorem uEqual (c q t : Int) (u : Value) (es : List Ef) (d r y : Int) (v : Value) (fs : List Ef) (w : World) (hx : RdEf w u es) (hy : RdEf w v fs) :
    Calls Tryd.prog 22 #[uv c q t u, uv d r y v] w fun e w' => e = .returned (.bool (UM.eqU c q t es d r y fs)) ∧ Below w.heap.size w w' := by
  obtain ⟨ua, uc, rfl, _, _⟩ := hx.shape
  obtain ⟨va, vc, rfl, _, _⟩ := hy.shape
  obtain ⟨w1, H⟩ := box2 w c q t d r y (.slice ua es.length uc) (.slice va fs.length vc)
  have HW := Lib.hid H.eq
  have HB := Lib.hid H.below
  have HX := Lib.hid H.a
  have HY := Lib.hid H.b
  have HC := Lib.hid (uCompare c q t (.slice ua es.length uc) d r y (.slice va fs.length vc) w1 ⟨_, _, _, rfl⟩ ⟨_, _, _, rfl⟩)
  have HS := Lib.hid (fun w' (hb : Below w1.heap.size w1 w') => uEqualS _ _ es fs w' ((hx.below HB.out).below hb) ((hy.below HB.out).below hb))
  obtain ⟨p0, p1, p2, p3, _⟩ := H.a.cells
  obtain ⟨q0, q1, q2, q3, _⟩ := H.b.cells
  obtain ⟨R, hR⟩ : ∃ R, R = UM.eqU c q t es d r y fs := ⟨_, rfl⟩
  rw [← hR]
  unfold UM.eqU at hR
  have hz := @UM.cmpU_zeroC c q d r
  generalize UM.cmpU c q d r = X at HC hz
  clear H hx hy
  by_cases hX : X = 0
  case neg =>
    have e := Lib.hid (show R = false by rw [hR]; exact decide_eq_false (fun h => hX (hz.2 ⟨h.1, h.2.1⟩)))
    have hne : (X == 0) = false := beq_f hX
    clear hR hz hX HS HX HY
    go_enter Tryd.func22, Tryd.ntmps22
    go_upto_region 1 with fail
    rw [HW.out]
    clear HW
    go_wp2_with fail
    refine HC.out.mono ?_
    rintro e w2 ⟨rfl, hb2⟩
    have HB2 := Lib.hid (bnext HB.out hb2)
    clear p0 p1 p2 p3 q0 q1 q2 q3 hb2
    go_wp2
    go_ret
    rw [e.out]
    exact ⟨rfl, HB2.out⟩
  have hX2 := hz.1 hX
  subst hX
  clear hz
  by_cases ht : t = y
  case neg =>
    have e := Lib.hid (show R = false by rw [hR]; exact decide_eq_false (fun h => ht h.2.2.1))
    have hne : (t == y) = false := beq_f ht
    clear hR ht hX2 HS
    go_enter Tryd.func22, Tryd.ntmps22
    go_upto_region 1 with fail
    rw [HW.out]
    clear HW
    go_wp2_with fail
    refine HC.out.mono ?_
    rintro e w2 ⟨rfl, hb2⟩
    have HB2 := Lib.hid (bnext HB.out hb2)
    clear p0 p1 p2 p3 q0 q1 q2 q3
    obtain ⟨p0, p1, p2, p3, _⟩ := (HX.out.below hb2).cells
    obtain ⟨q0, q1, q2, q3, _⟩ := (HY.out.below hb2).cells
    clear hb2
    go_wp2
    go_ret
    rw [e.out]
    exact ⟨rfl, HB2.out⟩
  have e := Lib.hid (show R = decide (es = fs) by rw [hR]; exact decide_eq_decide.2 ⟨fun h => h.2.2.2, fun h => ⟨hX2.1, hX2.2, ht, h⟩⟩)
  have hne : (t == y) = true := beq_t ht
  rw [← e.out] at HS
  clear hR ht hX2
  go_enter Tryd.func22, Tryd.ntmps22
  go_upto_region 1 with fail
  rw [HW.out]
  clear HW
  go_wp2_with fail
  refine HC.out.mono ?_
  rintro e w2 ⟨rfl, hb2⟩
  have HB2 := Lib.hid (bnext HB.out hb2)
  have HE := Lib.hid (HS.out _ hb2)
  clear p0 p1 p2 p3 q0 q1 q2 q3
  obtain ⟨p0, p1, p2, p3, _⟩ := (HX.out.below hb2).cells
  obtain ⟨q0, q1, q2, q3, _⟩ := (HY.out.below hb2).cells
  clear hb2 HS
  go_wp2_with fail
  refine HE.out.mono ?_
  rintro e w3 ⟨rfl, hb3⟩
  go_wp2
  go_ret
  exact ⟨rfl, bnext HB2.out hb3⟩

end Go.Proofs.YtcalnapdpnnljaaDoor
