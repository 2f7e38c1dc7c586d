/-
  The call of proposal.Validate: it returns the error that the plain mathematics says. Conditions: the changes read.
-/
import Derived.Test.YtacbpphhkkmelaaJChg
import Derived.Test.YtacbpphhkkmelaaJRep
namespace Go.Proofs.Ytacbpphhkkmelaa
open Go.RowKit
open JM (Chg)

/-- Block g holds a proposal by value. -/
def PBox (w : World) (g : Nat) (a n : Int) (sv : Value) : Prop :=
  w.cell? ⟨g, 0, none⟩ = some (.int .i64 a) ∧ w.cell? ⟨g, 1, none⟩ = some (.int .i64 n) ∧ w.cell? ⟨g, 2, none⟩ = some sv
theorem PBox.fresh (w : World) (a n : Int) (sv : Value) : PBox (w.alloc (.cells #[.int .i64 a, .int .i64 n, sv] 45)) w.heap.size a n sv := by
  refine ⟨?_, ?_, ?_⟩ <;> simp [World.cell?_alloc_new]
theorem PBox.below {w w' : World} {g : Nat} {a n : Int} {sv : Value} (h : PBox w g a n sv) (hb : Below w.heap.size w w') : PBox w' g a n sv :=
  ⟨below_cell hb h.1, below_cell hb h.2.1, below_cell hb h.2.2⟩
/-- Block g holds a change by value. -/
def CBox (w : World) (g : Nat) (k s t v a b c : Int) : Prop :=
  w.cell? ⟨g, 0, none⟩ = some (.int .i64 k) ∧ w.cell? ⟨g, 1, none⟩ = some (.int .i64 s) ∧ w.cell? ⟨g, 2, none⟩ = some (.int .i64 t) ∧ w.cell? ⟨g, 3, none⟩ = some (.int .i64 v) ∧
  w.cell? ⟨g, 4, none⟩ = some (.int .i64 a) ∧ w.cell? ⟨g, 5, none⟩ = some (.int .i64 b) ∧ w.cell? ⟨g, 6, none⟩ = some (.int .i64 c)
theorem CBox.fresh (w : World) (k s t v a b c : Int) : CBox (w.alloc (.cells #[.int .i64 k, .int .i64 s, .int .i64 t, .int .i64 v, .int .i64 a, .int .i64 b, .int .i64 c] 63)) w.heap.size k s t v a b c := by
  refine ⟨?_, ?_, ?_, ?_, ?_, ?_, ?_⟩ <;> simp [World.cell?_alloc_new]
theorem CBox.below {w w' : World} {g : Nat} {k s t v a b c : Int} (h : CBox w g k s t v a b c) (hb : Below w.heap.size w w') : CBox w' g k s t v a b c :=
  ⟨below_cell hb h.1, below_cell hb h.2.1, below_cell hb h.2.2.1, below_cell hb h.2.2.2.1, below_cell hb h.2.2.2.2.1, below_cell hb h.2.2.2.2.2.1, below_cell hb h.2.2.2.2.2.2⟩

theorem errP_range {a n : Int} {cs : List Chg} (h : JM.isAdm a = false ∨ JM.fit n 3 = false) : JM.errP a n cs = 9 := by
  unfold JM.errP
  rcases h with h | h
  · rw [if_pos (.inl h)]
  · rw [if_pos]
    unfold JM.fit at h
    rw [decide_eq_false_iff_not] at h
    simp only [Int.reduceLT, if_false] at h
    omega
theorem errP_of {a n : Int} {cs : List Chg} (h : JM.isAdm a = true) (h2 : JM.fit n 3 = true) : JM.errP a n cs = if cs = [] then 2 else if 6 < cs.length then 3 else JM.errS [] cs := by
  unfold JM.errP
  rw [if_neg]
  unfold JM.fit at h2
  rw [decide_eq_true_eq] at h2
  simp only [Int.reduceLT, if_false] at h2
  rw [h]
  simp
  omega
theorem errS_cons (d : List Chg) (x : Chg) (r : List Chg) : JM.errS d (x :: r) = if JM.errCh x ≠ 0 then JM.errCh x else if d.any (fun y => JM.sim y x) = true then 5 else JM.errS (d ++ [x]) r := rfl

set_option maxRecDepth 100000 in
set_option maxHeartbeats 2000000 in
theorem cValidate (a n : Int) (v : Value) (cs : List Chg) (w : World) (h : RdC w v cs) :
    Calls Try.prog 44 #[pv a n v] w fun e w' => e = .returned (.int .i64 (JM.errP a n cs)) ∧ Below w.heap.size w w' := by
  obtain ⟨ad, cp, rfl, hc, hl⟩ := h.shape
  obtain ⟨R, hR⟩ : ∃ R, R = JM.errP a n cs := ⟨_, rfl⟩
  rw [← hR]
  have ha := fun w => cAdmin a w
  have hn := fun w => cFits n 3 w
  obtain ⟨A, hA⟩ : ∃ A, A = JM.isAdm a := ⟨_, rfl⟩
  obtain ⟨F, hF⟩ : ∃ F, F = JM.fit n 3 := ⟨_, rfl⟩
  rw [← hA] at ha
  rw [← hF] at hn
  have HA := Lib.hid ha
  have HN := Lib.hid hn
  clear ha hn
  have hb0 := below_fresh w (.cells #[.int .i64 a, .int .i64 n, .slice ad cs.length cp] 45)
  cases A
  · have HR := Lib.hid (hR.trans (errP_range (.inl hA.symm)))
    clear hR hA hF h
    go_enter Try.func44, Try.ntmps44
    go_wp2_with (go_at_call 70; refine (HA.out _).mono ?_; rintro e w1 ⟨rfl, rfl⟩)
    go_ret
    rw [HR.out]
    exact ⟨rfl, hb0⟩
  cases F
  · have HR := Lib.hid (hR.trans (errP_range (.inr hF.symm)))
    clear hR hA hF h
    go_enter Try.func44, Try.ntmps44
    go_wp2_with (first | (go_at_call 70; refine (HA.out _).mono ?_; rintro e w1 ⟨rfl, rfl⟩) | (go_at_call 71; refine (HN.out _).mono ?_; rintro e w1 ⟨rfl, rfl⟩))
    go_ret
    rw [HR.out]
    exact ⟨rfl, hb0⟩
  have hR2 := hR.trans (errP_of hA.symm hF.symm)
  clear hR hA hF
  have HX := Lib.hid h
  clear h
  by_cases h0 : cs = []
  · have HR := Lib.hid (hR2.trans (if_pos h0))
    have hz : ((cs.length : Int) == 0) = true := by rw [h0]; rfl
    clear hR2 h0
    go_enter Try.func44, Try.ntmps44
    go_wp2_with (first | (go_at_call 70; refine (HA.out _).mono ?_; rintro e w1 ⟨rfl, rfl⟩) | (go_at_call 71; refine (HN.out _).mono ?_; rintro e w1 ⟨rfl, rfl⟩))
    go_ret
    rw [HR.out]
    exact ⟨rfl, hb0⟩
  rw [if_neg h0] at hR2
  have hz : ((cs.length : Int) == 0) = false := beq_f (by have := List.length_pos_iff.2 h0; omega)
  clear h0
  by_cases h6 : 6 < cs.length
  · have HR := Lib.hid (hR2.trans (if_pos h6))
    have hz : (6 : Int) < (cs.length : Int) := by omega
    clear hR2 h6
    go_enter Try.func44, Try.ntmps44
    go_wp2_with (first | (go_at_call 70; refine (HA.out _).mono ?_; rintro e w1 ⟨rfl, rfl⟩) | (go_at_call 71; refine (HN.out _).mono ?_; rintro e w1 ⟨rfl, rfl⟩))
    go_ret
    rw [HR.out]
    exact ⟨rfl, hb0⟩
  rw [if_neg h6] at hR2
  have h6' : ¬ (6 : Int) < (cs.length : Int) := by omega
  have HR := Lib.hid hR2
  have HX0 := Lib.hid (HX.out.below hb0)
  have HP0 := Lib.hid (PBox.fresh w a n (.slice ad cs.length cp))
  have HB0 := Lib.hid hb0
  clear hR2 h6 hb0 HX
  go_enter Try.func44, Try.ntmps44
  go_wp2_with (first | (go_at_call 70; refine (HA.out _).mono ?_; rintro e w1 ⟨rfl, rfl⟩) | (go_at_call 71; refine (HN.out _).mono ?_; rintro e w1 ⟨rfl, rfl⟩))
  clear HA HN
  generalize w.alloc (.cells #[.int .i64 a, .int .i64 n, .slice ad cs.length cp] 45) = w0 at HX0 HP0 HB0 ⊢
  go_loopw [30] (fun i wr => ∃ k : Nat, k ≤ cs.length ∧ i = .int .i64 k ∧ Below w0.heap.size w0 wr ∧ Hid (R = JM.errS (cs.take k) (cs.drop k))) (fun i _ => cs.length - (intOf i).toNat)
  case atStart => exact ⟨0, Nat.zero_le _, rfl, Below.refl _ _, HR.out⟩
  case round =>
    obtain ⟨k, hk, rfl, hbl, he⟩ := hrel
    by_cases hlt : k < cs.length
    · have hq : (k : Int) < (cs.length : Int) := by omega
      have hdx := Lib.hid (drop_get hlt)
      have htk := Lib.hid (List.take_append_getElem hlt)
      have hat := List.getElem?_eq_getElem hlt
      generalize cs[k] = y at hdx hat htk
      obtain ⟨k', s', t', v', a', b', c'⟩ := y
      obtain ⟨b, o, hi, hb, d0, d1, d2, d3, d4, d5, d6⟩ := atC (HX0.out.below hbl) k _ _ _ _ _ _ _ hat
      have e2 := Lib.hid (show R = if JM.errCh (k', s', t', v', a', b', c') ≠ 0 then JM.errCh (k', s', t', v', a', b', c') else if (cs.take k).any (fun y => JM.sim y (k', s', t', v', a', b', c')) = true then 5 else JM.errS (cs.take (k + 1)) (cs.drop (k + 1)) by rw [he.out, hdx.out, errS_cons, htk.out])
      clear he hdx hat htk
      have hbn := below_fresh wr (.cells #[.int .i64 k', .int .i64 s', .int .i64 t', .int .i64 v', .int .i64 a', .int .i64 b', .int .i64 c'] 63)
      have HV := Lib.hid (fun w => cValChange k' s' t' v' a' b' c' w)
      have hec : JM.errCh (k', s', t', v', a', b', c') = JM.errC k' s' t' v' a' b' c' := rfl
      rw [hec] at e2
      generalize JM.errC k' s' t' v' a' b' c' = ec at HV e2
      have HCB := Lib.hid (CBox.fresh wr k' s' t' v' a' b' c')
      have HBN := Lib.hid (bnext hbl hbn)
      clear hbn
      by_cases hec0 : ec = 0
      · subst hec0
        have e2 := Lib.hid (e2.out.trans (if_neg (fun h => h rfl)))
        go_wp2_with (go_at_call 72; refine (HV.out _).mono ?_; rintro e w1 ⟨rfl, hb1⟩)
        have HC1 := Lib.hid (HCB.out.below hb1)
        have HB1 := Lib.hid (bnext HBN.out hb1)
        clear hb1 HCB HBN HV
        have HP1 := Lib.hid (HP0.out.below HB1.out)
        obtain ⟨v2, hcut, hrd⟩ := (HX0.out.below HB1.out).cut0 chgE k (by omega)
        have c0 : ∀ p : Later w1, p.val.cell? ⟨wr.heap.size, 0, none⟩ = some (.int .i64 k') := fun p => (HC1.out.below p.h).1
        have c1 : ∀ p : Later w1, p.val.cell? ⟨wr.heap.size, 1, none⟩ = some (.int .i64 s') := fun p => (HC1.out.below p.h).2.1
        have c2 : ∀ p : Later w1, p.val.cell? ⟨wr.heap.size, 2, none⟩ = some (.int .i64 t') := fun p => (HC1.out.below p.h).2.2.1
        have c3 : ∀ p : Later w1, p.val.cell? ⟨wr.heap.size, 3, none⟩ = some (.int .i64 v') := fun p => (HC1.out.below p.h).2.2.2.1
        have c4 : ∀ p : Later w1, p.val.cell? ⟨wr.heap.size, 4, none⟩ = some (.int .i64 a') := fun p => (HC1.out.below p.h).2.2.2.2.1
        have c5 : ∀ p : Later w1, p.val.cell? ⟨wr.heap.size, 5, none⟩ = some (.int .i64 b') := fun p => (HC1.out.below p.h).2.2.2.2.2.1
        have c6 : ∀ p : Later w1, p.val.cell? ⟨wr.heap.size, 6, none⟩ = some (.int .i64 c') := fun p => (HC1.out.below p.h).2.2.2.2.2.2
        have p2 : ∀ p : Later w1, p.val.cell? ⟨w.heap.size, 2, none⟩ = some (.slice ad cs.length cp) := fun p => (HP1.out.below p.h).2.2
        have HT : ∃ B, Hid (R = if B = true then 5 else JM.errS (cs.take (k + 1)) (cs.drop (k + 1))) ∧ Hid (∀ p : Later w1, Calls Try.prog 73 #[cv k' s' t' v' a' b' c', v2] p.val fun e w'' => e = .returned (.bool B) ∧ ∃ q : Later w1, w'' = q.val) :=
          ⟨_, e2, fun p => Calls.later (cRepeats (k', s', t', v', a', b', c') v2 (cs.take k) p.val (hrd.below p.h))⟩
        obtain ⟨B, e3, HC⟩ := HT
        clear hrd e2 HC1 HP1 d0 d1 d2 d3 d4 d5 d6
        cases B
        · have e4 := Lib.hid (e3.out.trans (if_neg (by decide)))
          clear e3
          refine wp_region_later (by kernel_rfl) (by kernel_rfl) ?_
          repeat (go_big_quiet_step (first | (go_at_call 73; with_reducible exact HC.out _)))
          refine wpQuiet_nil ?_
          rintro _ ⟨p, rfl⟩
          go_wp2
          go_roundw
          case rel => exact ⟨k + 1, by omega, by go_num, bnext HB1.out p.h, e4⟩
          case measure => simp [intOf]; omega
        · have e4 := Lib.hid (e3.out.trans (if_pos rfl))
          clear e3
          refine wp_region_later (by kernel_rfl) (by kernel_rfl) ?_
          repeat (go_big_quiet_step (first | (go_at_call 73; with_reducible exact HC.out _)))
          refine wpQuiet_nil ?_
          rintro _ ⟨p, rfl⟩
          go_wp2
          go_ret
          rw [e4.out]
          exact ⟨rfl, bnext HB0.out (bnext HB1.out p.h)⟩
      · have e2 := Lib.hid (e2.out.trans (if_pos hec0))
        have hne : (ec != 0) = true := bne_t hec0
        clear hec0
        go_wp2_with (go_at_call 72; refine (HV.out _).mono ?_; rintro e w1 ⟨rfl, hb1⟩)
        go_ret
        rw [e2.out]
        exact ⟨rfl, bnext HB0.out (bnext HBN.out hb1)⟩
    · have hq : ¬ ((k : Int) < (cs.length : Int)) := by omega
      have e2 := Lib.hid (show R = 0 by rw [he.out, List.drop_of_length_le (by omega)]; rfl)
      clear he HR
      go_wp2
      go_ret
      rw [e2.out]
      exact ⟨rfl, bnext HB0.out hbl⟩

end Go.Proofs.Ytacbpphhkkmelaa
