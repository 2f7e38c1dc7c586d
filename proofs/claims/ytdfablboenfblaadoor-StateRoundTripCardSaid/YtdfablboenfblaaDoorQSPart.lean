/-
  The calls of the reference's Agree and of the laws' ValidStates. Conditions: the states read. (Written by mk_sref.py.)
-/
import Derived.Test.YtdfablboenfblaaDoorQSR1
import Derived.Test.YtdfablboenfblaaDoorQSM1
namespace Go.Proofs.YtdfablboenfblaaDoor.ST
open Go.RowKit Go.Joins
open UM (Ef)
open SM (Fp)

set_option maxRecDepth 100000 in
set_option maxHeartbeats 4000000 in
theorem rAgree (va vb : Value) (xs ys : List Fp) (w : World) (ha : RdF w va xs) (hb : RdF w vb ys) :
    Calls Tryd.prog 46 #[va, vb] w fun e w' => e = .returned (.bool (SM.agr xs ys)) ∧ Below w.heap.size w w' := by
  obtain ⟨aa, ac, rfl, hac, _⟩ := ha.shape
  obtain ⟨ba, bc, rfl, hbc, _⟩ := hb.shape
  obtain ⟨R, hR⟩ : ∃ R, R = SM.agr xs ys := ⟨_, rfl⟩
  rw [← hR]
  have HA := Lib.hid ha
  have HB := Lib.hid hb
  have HR := Lib.hid hR
  clear ha hb hR
  go_enter Tryd.func46, Tryd.ntmps46
  go_wp2
  go_loopw [5] (fun i wr => ∃ k : Nat, k ≤ xs.length ∧ i = .int .i64 k ∧ Hid (Below w.heap.size w wr) ∧ Hid (R = SM.agr (xs.drop k) ys)) (fun i _ => xs.length - (intOf i).toNat)
  case atStart => exact ⟨0, Nat.zero_le _, rfl, Below.refl _ _, HR.out⟩
  case round =>
    obtain ⟨k, hk, rfl, hbl, he⟩ := hrel
    clear HR
    by_cases hlt : k < xs.length
    · have hq : (k : Int) < (xs.length : Int) := by omega
      have hd := drop_get hlt
      have hk2 := List.getElem?_eq_getElem hlt
      generalize xs[k] = f at hd hk2
      have e1 : Hid (R = (SM.agr1 f ys && SM.agr (xs.drop (k + 1)) ys)) := by show R = _; rw [he.out, hd]; rfl
      obtain ⟨x, m, t, cs⟩ := f
      obtain ⟨b, o, da, dl, dc, hi, hbw, c0, c1, c2, c3, hrd⟩ := HA.out.at_ k x m t cs hk2
      have HRD := Lib.hid hrd
      have C0 := Lib.hid c0
      have C1 := Lib.hid c1
      have C2 := Lib.hid c2
      have C3 := Lib.hid c3
      clear hd hk2 he c0 c1 c2 c3 hrd
      go_wp2
      obtain ⟨wo, hwo⟩ : ∃ wo, wo = wr := ⟨_, rfl⟩
      rw [← hwo] at hbl ⊢
      clear hwo
      go_loopw [6] (fun i wr => ∃ j : Nat, j ≤ ys.length ∧ i = .int .i64 j ∧ Hid (Below w.heap.size w wr) ∧ Hid (R = (SM.agr1 (x, m, t, cs) (ys.drop j) && SM.agr (xs.drop (k + 1)) ys))) (fun i _ => ys.length - (intOf i).toNat)
      case atStart => exact ⟨0, Nat.zero_le _, rfl, hbl.out, e1.out⟩
      case round =>
        clear hbl e1
        obtain ⟨j, hj, rfl, hbl, he⟩ := hrel
        by_cases hlt2 : j < ys.length
        · have hq2 : (j : Int) < (ys.length : Int) := by omega
          have hd := drop_get hlt2
          have hk2 := List.getElem?_eq_getElem hlt2
          generalize ys[j] = g at hd hk2
          have e1 : Hid (R = (!(decide (UM.cmpU x m g.1 g.2.1 = 0) && !UM.eqU x m t cs g.1 g.2.1 g.2.2.1 g.2.2.2) && (SM.agr1 (x, m, t, cs) (ys.drop (j + 1)) && SM.agr (xs.drop (k + 1)) ys))) := by
            show R = _
            rw [he.out, hd, ← Bool.and_assoc]; rfl
          obtain ⟨y, n, u, ds⟩ := g
          obtain ⟨b2, o2, ea, el, ec, hi2, hbw2, f0, f1, f2, f3, hrd2⟩ := HB.out.at_ j y n u ds hk2
          have HC := Lib.hid (fun p : Later wr => rCompareL x m t da dl dc y n u ea el ec p)
          have HE := Lib.hid (fun p : Later wr => Calls.later (rEqU x m t (.slice da dl dc) cs y n u (.slice ea el ec) ds p.val ((HRD.out.below hbl.out).below p.h) ((hrd2.below hbl.out).below p.h)))
          have k0 : ∀ p : Later wr, p.val.cell? ⟨b, o, none⟩ = some (.int .i64 x) := fun p => below_cell p.h (below_cell hbl.out C0.out)
          have k1 : ∀ p : Later wr, p.val.cell? ⟨b, o + 1, none⟩ = some (.int .i64 m) := fun p => below_cell p.h (below_cell hbl.out C1.out)
          have k2 : ∀ p : Later wr, p.val.cell? ⟨b, o + 2, none⟩ = some (.int .i64 t) := fun p => below_cell p.h (below_cell hbl.out C2.out)
          have k3 : ∀ p : Later wr, p.val.cell? ⟨b, o + 3, none⟩ = some (.slice da dl dc) := fun p => below_cell p.h (below_cell hbl.out C3.out)
          have j0 : ∀ p : Later wr, p.val.cell? ⟨b2, o2, none⟩ = some (.int .i64 y) := fun p => below_cell p.h (below_cell hbl.out f0)
          have j1 : ∀ p : Later wr, p.val.cell? ⟨b2, o2 + 1, none⟩ = some (.int .i64 n) := fun p => below_cell p.h (below_cell hbl.out f1)
          have j2 : ∀ p : Later wr, p.val.cell? ⟨b2, o2 + 2, none⟩ = some (.int .i64 u) := fun p => below_cell p.h (below_cell hbl.out f2)
          have j3 : ∀ p : Later wr, p.val.cell? ⟨b2, o2 + 3, none⟩ = some (.slice ea el ec) := fun p => below_cell p.h (below_cell hbl.out f3)
          simp only at e1
          generalize UM.cmpU x m y n = C at HC e1
          generalize UM.eqU x m t cs y n u ds = D at HE e1
          have HBL := Lib.hid hbl.out
          clear f0 f1 f2 f3 hrd2 hk2 hd he hbl
          by_cases hC : C = 0
          · have hCt : (C == 0) = true := beq_t hC
            cases D
            · have e2 := Lib.hid (show R = false by rw [e1.out, decide_eq_true hC]; rfl)
              clear e1 hC
              go_wp2
              refine wp_region_later (by kernel_rfl) (by kernel_rfl) ?_
              repeat (go_big_quiet_step (first | (go_at_call 45; with_reducible exact HC.out _) | (go_at_call 54; with_reducible exact HE.out _)))
              refine wpQuiet_nil ?_
              rintro _ ⟨p', rfl⟩
              have HB2 := Lib.hid (bnext HBL.out p'.h)
              generalize p'.val = w2 at HB2 ⊢
              clear k0 k1 k2 k3 j0 j1 j2 j3 HC HE HBL
              go_wp2
              go_ret
              rw [e2.out]
              exact ⟨rfl, HB2.out⟩
            · have e2 := Lib.hid (show R = (SM.agr1 (x, m, t, cs) (ys.drop (j + 1)) && SM.agr (xs.drop (k + 1)) ys) by rw [e1.out, decide_eq_true hC]; rfl)
              clear e1 hC
              go_wp2
              refine wp_region_later (by kernel_rfl) (by kernel_rfl) ?_
              repeat (go_big_quiet_step (first | (go_at_call 45; with_reducible exact HC.out _) | (go_at_call 54; with_reducible exact HE.out _)))
              refine wpQuiet_nil ?_
              rintro _ ⟨p', rfl⟩
              have HB2 := Lib.hid (bnext HBL.out p'.h)
              generalize p'.val = w2 at HB2 ⊢
              clear k0 k1 k2 k3 j0 j1 j2 j3 HC HE HBL
              go_wp2
              go_roundw
              case rel => exact ⟨j + 1, by omega, by go_num, HB2, e2⟩
              case measure => simp [intOf]; omega
          · have hCt : (C == 0) = false := beq_f hC
            have e2 := Lib.hid (show R = (SM.agr1 (x, m, t, cs) (ys.drop (j + 1)) && SM.agr (xs.drop (k + 1)) ys) by rw [e1.out, decide_eq_false hC]; rfl)
            clear e1 hC
            go_wp2
            refine wp_region_later (by kernel_rfl) (by kernel_rfl) ?_
            repeat (go_big_quiet_step (first | (go_at_call 45; with_reducible exact HC.out _) | (go_at_call 54; with_reducible exact HE.out _)))
            refine wpQuiet_nil ?_
            rintro _ ⟨p', rfl⟩
            have HB2 := Lib.hid (bnext HBL.out p'.h)
            generalize p'.val = w2 at HB2 ⊢
            clear k0 k1 k2 k3 j0 j1 j2 j3 HC HE HBL
            go_wp2
            go_roundw
            case rel => exact ⟨j + 1, by omega, by go_num, HB2, e2⟩
            case measure => simp [intOf]; omega
        · have hq2 : ¬ ((j : Int) < (ys.length : Int)) := by omega
          have e2 := Lib.hid (show R = SM.agr (xs.drop (k + 1)) ys by rw [he.out, List.drop_of_length_le (by omega)]; rfl)
          clear he HRD C0 C1 C2 hi hbw
          go_wp2
          go_roundw
          case rel => exact ⟨k + 1, by omega, by go_num, hbl, e2⟩
          case measure => simp [intOf]; omega
    · have hq : ¬ ((k : Int) < (xs.length : Int)) := by omega
      have e2 := Lib.hid (show R = true by rw [he.out, List.drop_of_length_le (by omega)]; rfl)
      clear he
      go_wp2
      go_ret
      rw [e2.out]
      exact ⟨rfl, hbl.out⟩

/-- What the laws' Valid says of two configurations. -/
def valid2 (xs ys : List Fp) : Bool := decide (SM.errL (0, 0) xs = 0) && (decide (SM.errL (0, 0) ys = 0) && SM.agr ys xs)
set_option maxRecDepth 100000 in
set_option maxHeartbeats 4000000 in
theorem kValid (g : Nat) (va vb : Value) (xs ys : List Fp) (w : World) (c0 : w.cell? ⟨g, 0, none⟩ = some va) (c1 : w.cell? ⟨g, 1, none⟩ = some vb) (ha : RdF w va xs) (hb : RdF w vb ys) :
    Calls Tryd.prog 16 #[.slice (some ⟨g, 0, none⟩) 2 2] w fun e w' => e = .returned (.bool (valid2 xs ys)) ∧ Below w.heap.size w w' := by
  obtain ⟨a1, a2, rfl, _, _⟩ := ha.shape
  obtain ⟨b1, b2, rfl, _, _⟩ := hb.shape
  have hV1 := rValidateS _ xs w ha
  have HV2 := Lib.hid (fun w' (hh : Below w.heap.size w w') => rValidateS _ ys w' (hb.below hh))
  have HAG := Lib.hid (fun w' (hh : Below w.heap.size w w') => rAgree _ _ ys xs w' (hb.below hh) (ha.below hh))
  clear ha hb
  unfold valid2
  generalize SM.errL (0, 0) xs = E1 at hV1
  generalize SM.errL (0, 0) ys = E2 at HV2
  generalize SM.agr ys xs = A at HAG
  have HV1 := Lib.hid hV1
  clear hV1
  by_cases h1 : E1 = 0
  · subst h1
    by_cases h2 : E2 = 0
    · subst h2
      go_enter Tryd.func16, Tryd.ntmps16
      go_wp2
      refine wp_loop_rounds 3 ?_
      rw [rounds_succ]
      go_wp2_with fail
      refine HV1.out.mono ?_
      rintro e w1 ⟨rfl, hb1⟩
      have d0 := below_cell hb1 c0
      have d1 := below_cell hb1 c1
      clear HV1
      go_wp2
      refine wp_loop_rounds 1 ?_
      rw [rounds_succ]
      go_wp2
      rw [rounds_succ]
      go_wp2_with fail
      refine (HV2.out w1 hb1).mono ?_
      rintro e w2 ⟨rfl, hb2⟩
      have f0 := below_cell hb2 d0
      have f1 := below_cell hb2 d1
      have HB2 := Lib.hid (bnext hb1 hb2)
      clear HV2
      have k0 : ∀ p : Later w2, p.val.cell? ⟨g, 0, none⟩ = some (.slice a1 xs.length a2) := fun p => below_cell p.h f0
      have k1 : ∀ p : Later w2, p.val.cell? ⟨g, 1, none⟩ = some (.slice b1 ys.length b2) := fun p => below_cell p.h f1
      have HG := Lib.hid (fun p : Later w2 => Calls.later (HAG.out p.val (bnext HB2.out p.h)))
      clear HAG f0 f1 d0 d1 c0 c1 hb1 hb2
      cases A
      · go_wp2
        refine wp_loop_rounds 2 ?_
        rw [rounds_succ]
        go_wp2
        refine wp_region_later (by kernel_rfl) (by kernel_rfl) ?_
        repeat (go_big_quiet_step (first | (go_at_call 46; with_reducible exact HG.out _)))
        refine wpQuiet_nil ?_
        rintro _ ⟨p', rfl⟩
        have HB3 := Lib.hid (bnext HB2.out p'.h)
        generalize p'.val = w3 at HB3 ⊢
        clear HG k0 k1 HB2
        go_wp2
        go_ret
        exact ⟨rfl, HB3.out⟩
      · go_wp2
        refine wp_loop_rounds 2 ?_
        rw [rounds_succ]
        go_wp2
        refine wp_region_later (by kernel_rfl) (by kernel_rfl) ?_
        repeat (go_big_quiet_step (first | (go_at_call 46; with_reducible exact HG.out _)))
        refine wpQuiet_nil ?_
        rintro _ ⟨p', rfl⟩
        have HB3 := Lib.hid (bnext HB2.out p'.h)
        generalize p'.val = w3 at HB3 ⊢
        clear HG k0 k1 HB2
        go_wp2
        rw [rounds_succ]
        go_wp2
        rw [rounds_succ]
        go_wp2
        go_ret
        exact ⟨rfl, HB3.out⟩
    · have hne : (E2 != 0) = true := bne_t h2
      have e2 := Lib.hid (show decide (E2 = 0) = false from decide_eq_false h2)
      rw [e2.out]
      clear h2 e2
      go_enter Tryd.func16, Tryd.ntmps16
      go_wp2
      refine wp_loop_rounds 3 ?_
      rw [rounds_succ]
      go_wp2_with fail
      refine HV1.out.mono ?_
      rintro e w1 ⟨rfl, hb1⟩
      have d0 := below_cell hb1 c0
      have d1 := below_cell hb1 c1
      clear HV1
      go_wp2
      refine wp_loop_rounds 1 ?_
      rw [rounds_succ]
      go_wp2
      rw [rounds_succ]
      go_wp2_with fail
      refine (HV2.out w1 hb1).mono ?_
      rintro e w2 ⟨rfl, hb2⟩
      have HB2 := Lib.hid (bnext hb1 hb2)
      go_wp2
      go_ret
      exact ⟨rfl, HB2.out⟩
  · have hne : (E1 != 0) = true := bne_t h1
    have e2 := Lib.hid (show decide (E1 = 0) = false from decide_eq_false h1)
    rw [e2.out]
    clear h1 e2
    go_enter Tryd.func16, Tryd.ntmps16
    go_wp2
    refine wp_loop_rounds 3 ?_
    rw [rounds_succ]
    go_wp2_with fail
    refine HV1.out.mono ?_
    rintro e w1 ⟨rfl, hb1⟩
    go_wp2
    go_ret
    exact ⟨rfl, hb1⟩

end Go.Proofs.YtdfablboenfblaaDoor.ST
