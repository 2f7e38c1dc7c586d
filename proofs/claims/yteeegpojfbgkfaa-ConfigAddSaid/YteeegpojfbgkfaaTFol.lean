/-
  The calls of sets.Follows and sets.Validate: what the plain mathematics says. Conditions: the set reads. (Written by mk_sets.py.)
-/
import Derived.Test.YteeegpojfbgkfaaTBas
import Derived.Test.YteeegpojfbgkfaaKG
namespace Go.Proofs.Yteeegpojfbgkfaa
open Go.RowKit
open JM (Chg)
open CM (Fp)

theorem pre_take {fs : List Fp} {k : Nat} (hk : k ≤ fs.length) : pre (fs.take k) (fs.take k).length = pre fs k := by
  rw [List.length_take, Nat.min_eq_left hk]
  unfold pre
  by_cases h : k = 0
  · rw [if_pos h, if_pos h]
  · rw [if_neg h, if_neg h]
    have : (fs.take k).getD (k - 1) (0, 0, []) = fs.getD (k - 1) (0, 0, []) := by simp [List.getD, show k - 1 < k by omega]
    rw [this]
/-- What Follows answers. -/
def folS (fs : List Fp) (x m : Int) : Bool := decide (m ≤ 1 ∨ ((pre fs fs.length).1 = x ∧ (pre fs fs.length).2 = m - 1))

set_option maxRecDepth 100000 in
set_option maxHeartbeats 4000000 in
theorem sFollows (v : Value) (fs : List Fp) (x m : Int) (da : Option Addr) (dl dc : Nat) (w : World) (h : RdF w v fs) (hm : 1 ≤ m ∧ m ≤ 100) (hx : x ≠ 0) :
    Calls Try.prog 69 #[(.agg #[.func (.func 70) #[] #[], .func (.func 71) #[] #[], .func (.func 72) #[] #[], .func (.func 73) #[] #[], .func (.func 55) #[] #[], .func (.func 74) #[] #[], .func (.func 75) #[] #[], .func (.func 76) #[] #[], .int .i64 9]), v, pv x m (.slice da dl dc)] w fun e w' => e = .returned (.bool (folS fs x m)) ∧ Below w.heap.size w w' := by
  obtain ⟨va, vc, rfl, hvc, _⟩ := h.shape
  obtain ⟨w2, HX⟩ := kbox w x m (.slice da dl dc)
  have HW := Lib.hid HX.eq
  have HB := Lib.hid HX.below
  have HK := Lib.hid HX.k
  have HP := Lib.hid HX.e
  have H2 := Lib.hid (h.below HX.below)
  obtain ⟨hm1, hm2⟩ := hm
  obtain ⟨K, hK⟩ : ∃ K, w.heap.size = K := ⟨_, rfl⟩
  rw [hK] at HK HP
  have HKE := Lib.hid hK
  clear HX h hK
  obtain ⟨R, hR⟩ : ∃ R, R = folS fs x m := ⟨_, rfl⟩
  rw [← hR]
  have HR := Lib.hid hR
  clear hR
  have HN := Lib.hid (cNumb x m da dl dc w2)
  obtain ⟨_, k1, _⟩ := HK.out.cells
  obtain ⟨p0, p1, p2, _⟩ := HP.out.cells
  go_enter Try.func69, Try.ntmps69
  go_upto_region 1 with fail
  rw [HW.out, HKE.out]
  have HB0 := Lib.hid (show Below K w w2 by rw [← HKE.out]; exact HB.out)
  clear HW HB
  go_wp2_with fail
  refine HN.out.mono ?_
  rintro e w3 ⟨rfl, hb3⟩
  have HB3 := Lib.hid (HB0.out.trans (hb3.mono (Nat.le_of_lt HK.out.lt)))
  have HK3 := Lib.hid (HK.out.below hb3)
  have HP3 := Lib.hid (HP.out.below hb3)
  have H3 := Lib.hid (H2.out.below hb3)
  clear k1 p0 p1 p2 HN HK HP H2 hb3
  by_cases h1 : m ≤ 1
  · have e := Lib.hid (show R = true by rw [HR.out]; exact decide_eq_true (.inl h1))
    go_wp2
    go_ret
    rw [e.out, HKE.out]
    exact ⟨rfl, HB3.out⟩
  · by_cases h0 : fs.length = 0
    · have e := Lib.hid (show R = false by
        rw [HR.out]
        refine decide_eq_false ?_
        rintro (h | ⟨h, _⟩)
        · exact h1 h
        · rw [h0, show pre fs 0 = (0, 0) from rfl] at h; exact hx h.symm)
      have hz : ((fs.length : Int) == 0) = true := beq_t (by omega)
      go_wp2
      go_ret
      rw [e.out, HKE.out]
      exact ⟨rfl, HB3.out⟩
    · have hlt : fs.length - 1 < fs.length := by omega
      have hg := List.getElem?_eq_getElem hlt
      have hpk : pre fs fs.length = (fs[fs.length - 1].1, fs[fs.length - 1].2.1) := by simp [pre, h0, List.getD, hg]
      generalize fs[fs.length - 1] = g at hg hpk
      obtain ⟨y, n, ds⟩ := g
      simp only at hpk
      have HR2 := Lib.hid (show R = decide (y = x ∧ n = m - 1) by
        rw [HR.out]; unfold folS; rw [hpk]
        exact decide_eq_decide.2 ⟨fun h => h.resolve_left h1, .inr⟩)
      obtain ⟨b, o, ea, el, ec, hi, hb, c0, c1, c2, _⟩ := H3.out.atS (fs.length - 1) y n ds hg
      rw [show ((fs.length - 1 : Nat) : Int) = (fs.length : Int) - 1 by omega] at hi
      have hz : ((fs.length : Int) == 0) = false := beq_f (by omega)
      have hpos : (0 : Int) < (fs.length : Int) := by omega
      obtain ⟨w4, HX4⟩ := eone w3 y n (.slice ea el ec)
      have HW4 := Lib.hid HX4.eq
      have HL4 := Lib.hid HX4.e
      have HB4 := Lib.hid (HB3.out.trans (HX4.below.mono (Nat.le_of_lt HK3.out.lt)))
      have HK4 := Lib.hid (HK3.out.below HX4.below)
      have HP4 := Lib.hid (HP3.out.below HX4.below)
      have HA1 := Lib.hid (fun p : Later w4 => Calls.later (cAuth y n ea el ec p.val))
      have HA2 := Lib.hid (fun p : Later w4 => Calls.later (cAuth x m da dl dc p.val))
      have HN1 := Lib.hid (fun p : Later w4 => Calls.later (cNumb y n ea el ec p.val))
      have HN2 := Lib.hid (fun p : Later w4 => Calls.later (cNumb x m da dl dc p.val))
      obtain ⟨L, hL⟩ : ∃ L, w3.heap.size = L := ⟨_, rfl⟩
      rw [hL] at HL4
      have HLE := Lib.hid hL
      clear hg hpk HR HX4 HK3 HP3 H3 HB3 hL
      go_upto_region 6 with fail
      rw [HW4.out, HLE.out]
      clear c0 c1 c2 hi hb HW4 HLE
      obtain ⟨j0, j1, _⟩ := HK4.out.later
      obtain ⟨z0, z1, z2⟩ := lat_e HP4.out
      obtain ⟨y0, y1, y2⟩ := lat_e HL4.out
      have hw1 : IntKind.i64.wrap (m - 1) = m - 1 := IntWalk.i64_in _ (by omega)
      by_cases hyx : y = x
      · have q1 : (y == x) = true := beq_t hyx
        by_cases hnm : n = m - 1
        · have q2 : (n == m - 1) = true := beq_t hnm
          have e := Lib.hid (show R = true by rw [HR2.out]; exact decide_eq_true ⟨hyx, hnm⟩)
          clear hyx hnm HR2
          refine wp_region_later (by kernel_rfl) (by kernel_rfl) ?_
          repeat (go_big_quiet_step (first | (go_at_call 70; with_reducible exact HA1.out _) | (go_at_call 70; with_reducible exact HA2.out _) | (go_at_call 71; with_reducible exact HN1.out _) | (go_at_call 71; with_reducible exact HN2.out _)))
          refine wpQuiet_nil ?_
          rintro _ ⟨p, rfl⟩
          have HB5 := Lib.hid (HB4.out.trans (p.h.mono (Nat.le_of_lt HK4.out.lt)))
          generalize p.val = w5 at HB5 ⊢
          go_wp2
          go_ret
          rw [e.out, HKE.out]
          exact ⟨rfl, HB5.out⟩
        · have q2 : (n == m - 1) = false := beq_f hnm
          have e := Lib.hid (show R = false by rw [HR2.out]; exact decide_eq_false (fun h => hnm h.2))
          clear hyx hnm HR2
          refine wp_region_later (by kernel_rfl) (by kernel_rfl) ?_
          repeat (go_big_quiet_step (first | (go_at_call 70; with_reducible exact HA1.out _) | (go_at_call 70; with_reducible exact HA2.out _) | (go_at_call 71; with_reducible exact HN1.out _) | (go_at_call 71; with_reducible exact HN2.out _)))
          refine wpQuiet_nil ?_
          rintro _ ⟨p, rfl⟩
          have HB5 := Lib.hid (HB4.out.trans (p.h.mono (Nat.le_of_lt HK4.out.lt)))
          generalize p.val = w5 at HB5 ⊢
          go_wp2
          go_ret
          rw [e.out, HKE.out]
          exact ⟨rfl, HB5.out⟩
      · have q1 : (y == x) = false := beq_f hyx
        have e := Lib.hid (show R = false by rw [HR2.out]; exact decide_eq_false (fun h => hyx h.1))
        clear hyx HR2
        refine wp_region_later (by kernel_rfl) (by kernel_rfl) ?_
        repeat (go_big_quiet_step (first | (go_at_call 70; with_reducible exact HA1.out _) | (go_at_call 70; with_reducible exact HA2.out _)))
        refine wpQuiet_nil ?_
        rintro _ ⟨p, rfl⟩
        have HB5 := Lib.hid (HB4.out.trans (p.h.mono (Nat.le_of_lt HK4.out.lt)))
        generalize p.val = w5 at HB5 ⊢
        go_wp2
        go_ret
        rw [e.out, HKE.out]
        exact ⟨rfl, HB5.out⟩

end Go.Proofs.Yteeegpojfbgkfaa
