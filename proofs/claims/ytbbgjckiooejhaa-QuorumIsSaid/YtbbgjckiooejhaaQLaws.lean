/-
  The laws QuorumIs and QuorumValidate of layer 4, walked: true, and memory of others as it was. Conditions: what came in reads.
-/
import Derived.Test.YtbbgjckiooejhaaQAwake
namespace Go.Proofs.Ytbbgjckiooejhaa
open Go.RowKit
open QM (Mem)

set_option maxRecDepth 100000 in
set_option maxHeartbeats 4000000 in
theorem lQuorumIs (sv xv : Value) (k c f : Int) (ms : List Mem) (xs : List Int) (w : World) (hr : RdM w sv ms) (hx : RdI w xv xs) :
    Calls Try.prog 4 #[vw sv k c f, xv] w fun e w' => e = .returned (.bool true) ∧ Below w.heap.size w w' := by
  have HA := Lib.hid cAwake
  have hv := VBox.fresh w sv k c f
  have hB := below_fresh w (.cells #[sv, .int .i64 k, .int .i64 c, .int .i64 f] 26)
  have h0 := hr.below hB
  have hx0 := hx.below hB
  have hsm := fun w hw => rSmall sv k c f 12 ms w hw
  have hq := fun (he : QM.errV k c f ms = 0) w hw hx => cIsQuorum sv xv k c f ms xs w hw hx he
  have hq2 := fun (he : QM.errV k c f ms = 0) w hw hx => rIsQuorum sv xv k c f ms xs w hw hx he
  obtain ⟨ad, cp, rfl, hcp, hl⟩ := hr.shape
  obtain ⟨bd, bp, rfl, hbp, hbl⟩ := hx.shape
  clear hr hx
  generalize (QM.isQ k c f ms fun x => decide (x ∈ xs)) = q at hq hq2
  generalize hw0 : w.alloc (.cells #[.slice ad ms.length cp, .int .i64 k, .int .i64 c, .int .i64 f] 26) = w0 at h0 hx0 hv hB
  have HW0 := Lib.hid hw0
  have H0 := Lib.hid h0
  have HX0 := Lib.hid hx0
  have HV := Lib.hid hv
  have HB := Lib.hid hB
  clear hw0 h0 hx0 hv hB
  obtain ⟨v0, v1, v2, v3, v4⟩ := HV.out
  have HQ := Lib.hid hq
  have HQ2 := Lib.hid hq2
  clear hq hq2
  obtain ⟨b, hb⟩ : ∃ b, b = (decide ((ms.length : Int) ≤ 12) && decide (QM.errV k c f ms = 0)) := ⟨_, rfl⟩
  rw [← hb] at hsm
  have HS := Lib.hid hsm
  have HE := Lib.hid hb
  clear hsm hb
  cases b
  · clear HE HQ HQ2
    go_enter Try.func4, Try.ntmps4
    go_wp2_with fail
    rw [HW0.out]
    refine (HS.out _ H0.out).mono ?_
    rintro e w1 ⟨rfl, hb1⟩
    have HB1 := Lib.hid (bnext HB.out hb1)
    clear hb1 HB H0 HX0 HV HW0 v0 v1 v2 v3 v4
    go_wp2_with fail
    refine (HA.out _).mono ?_
    rintro e w2 ⟨rfl, hb2⟩
    have HB2 := Lib.hid (bnext HB1.out hb2)
    clear hb2 HB1
    go_wp2
    go_ret
    exact ⟨rfl, HB2.out⟩
  · have he : QM.errV k c f ms = 0 := by
      have := HE.out.symm
      rw [Bool.and_eq_true, decide_eq_true_iff, decide_eq_true_iff] at this
      exact this.2
    have HQ' := Lib.hid (HQ.out he)
    have HQ2' := Lib.hid (HQ2.out he)
    clear he HE HQ HQ2
    by_cases h60 : 60 < xs.length
    · have hz : (60 : Int) < (xs.length : Int) := by omega
      go_enter Try.func4, Try.ntmps4
      go_wp2_with fail
      rw [HW0.out]
      refine (HS.out _ H0.out).mono ?_
      rintro e w1 ⟨rfl, hb1⟩
      have HB1 := Lib.hid (bnext HB.out hb1)
      clear hb1 HB H0 HX0 HV HW0 v0 v1 v2 v3 v4
      go_wp2_with fail
      refine (HA.out _).mono ?_
      rintro e w2 ⟨rfl, hb2⟩
      have HB2 := Lib.hid (bnext HB1.out hb2)
      clear hb2 HB1
      go_wp2
      go_ret
      exact ⟨rfl, HB2.out⟩
    · have hz : ¬ (60 : Int) < (xs.length : Int) := by omega
      go_enter Try.func4, Try.ntmps4
      go_wp2_with fail
      rw [HW0.out]
      refine (HS.out _ H0.out).mono ?_
      rintro e w1 ⟨rfl, hb1⟩
      have HB1 := Lib.hid (bnext HB.out hb1)
      have v0' : ∀ p : Later w1, p.val.cell? ⟨w.heap.size, 0, none⟩ = some (.slice ad ms.length cp) := fun p => ((HV.out.below hb1).below p.h).2.1
      have v1' : ∀ p : Later w1, p.val.cell? ⟨w.heap.size, 1, none⟩ = some (.int .i64 k) := fun p => ((HV.out.below hb1).below p.h).2.2.1
      have v2' : ∀ p : Later w1, p.val.cell? ⟨w.heap.size, 2, none⟩ = some (.int .i64 c) := fun p => ((HV.out.below hb1).below p.h).2.2.2.1
      have v3' : ∀ p : Later w1, p.val.cell? ⟨w.heap.size, 3, none⟩ = some (.int .i64 f) := fun p => ((HV.out.below hb1).below p.h).2.2.2.2
      have C1 := Lib.hid (fun p : Later w1 => Calls.later (HQ'.out p.val ((H0.out.below hb1).below p.h) ((HX0.out.below hb1).below p.h)))
      have C2 := Lib.hid (fun p : Later w1 => Calls.later (HQ2'.out p.val ((H0.out.below hb1).below p.h) ((HX0.out.below hb1).below p.h)))
      have C3 := Lib.hid (fun p : Later w1 => Calls.later (HA.out p.val))
      clear hb1 HB H0 HX0 HV HW0 v0 v1 v2 v3 v4 HS HQ' HQ2' HA
      have hqq : (q == q) = true := beq_self_eq_true q
      go_wp2
      refine wp_region_later (by kernel_rfl) (by kernel_rfl) ?_
      repeat (go_big_quiet_step (first | (go_at_call 18; with_reducible exact C1.out _) | (go_at_call 19; with_reducible exact C2.out _) | (go_at_call 11; with_reducible exact C3.out _)))
      refine wpQuiet_nil ?_
      rintro _ ⟨p, rfl⟩
      go_wp2
      go_ret
      exact ⟨rfl, bnext HB1.out p.h⟩

/-- A rule in a block of its own. -/
def RBox (w : World) (B : Nat) (k c f : Int) : Prop := w.cell? ⟨B, 0, none⟩ = some (.int .i64 k) ∧ w.cell? ⟨B, 1, none⟩ = some (.int .i64 c) ∧ w.cell? ⟨B, 2, none⟩ = some (.int .i64 f)
theorem RBox.below {w w' : World} {B : Nat} {k c f : Int} (h : RBox w B k c f) (hb : Below w.heap.size w w') : RBox w' B k c f := ⟨below_cell hb h.1, below_cell hb h.2.1, below_cell hb h.2.2⟩
theorem RBox.fresh (w : World) (k c f : Int) : RBox (w.alloc (.cells #[.int .i64 k, .int .i64 c, .int .i64 f] 23)) w.heap.size k c f :=
  ⟨by simp [World.cell?_alloc_new], by simp [World.cell?_alloc_new], by simp [World.cell?_alloc_new]⟩

set_option maxRecDepth 100000 in
set_option maxHeartbeats 4000000 in
theorem lQuorumValidate (sv : Value) (k c f k2 c2 f2 : Int) (ms : List Mem) (w : World) (hr : RdM w sv ms) :
    Calls Try.prog 3 #[rl k c f, vw sv k2 c2 f2] w fun e w' => e = .returned (.bool true) ∧ Below w.heap.size w w' := by
  have HA := Lib.hid cAwake
  obtain ⟨ad, cp, rfl, hcp, hl⟩ := hr.shape
  have hR := RBox.fresh w k c f
  have hB1 := below_fresh w (.cells #[.int .i64 k, .int .i64 c, .int .i64 f] 23)
  have hs1 : (w.alloc (.cells #[.int .i64 k, .int .i64 c, .int .i64 f] 23)).heap.size = w.heap.size + 1 := World.size_alloc _ _
  have hv := VBox.fresh (w.alloc (.cells #[.int .i64 k, .int .i64 c, .int .i64 f] 23)) (.slice ad ms.length cp) k2 c2 f2
  rw [hs1] at hv
  have hB2 := below_fresh (w.alloc (.cells #[.int .i64 k, .int .i64 c, .int .i64 f] 23)) (.cells #[.slice ad ms.length cp, .int .i64 k2, .int .i64 c2, .int .i64 f2] 26)
  have h0 := (hr.below hB1).below hB2
  have hR0 := hR.below hB2
  have hB := bnext hB1 hB2
  have hf := fun w => cFaulty k c f w
  have hc1 := fun w => cValRule k c f w
  have hc2 := fun w => rValRule k c f w
  have hc3 := fun w hw => cValidate (.slice ad ms.length cp) k2 c2 f2 ms w hw
  have hc4 := fun w hw => rValidate (.slice ad ms.length cp) k2 c2 f2 ms w hw
  generalize QM.errR k c f = er at hc1 hc2
  generalize QM.errV k2 c2 f2 ms = ev at hc3 hc4
  clear hr hR hB1 hB2 hs1
  generalize hw0 : (w.alloc (.cells #[.int .i64 k, .int .i64 c, .int .i64 f] 23)).alloc (.cells #[.slice ad ms.length cp, .int .i64 k2, .int .i64 c2, .int .i64 f2] 26) = w0 at h0 hR0 hv hB
  have HW0 := Lib.hid hw0
  have H0 := Lib.hid h0
  have HR := Lib.hid hR0
  have HV := Lib.hid hv
  have HB := Lib.hid hB
  have HF := Lib.hid hf
  have HC1 := Lib.hid hc1
  have HC2 := Lib.hid hc2
  have HC3 := Lib.hid hc3
  have HC4 := Lib.hid hc4
  clear hw0 h0 hR0 hv hB hf hc1 hc2 hc3 hc4
  obtain ⟨v0, v1, v2, v3, v4⟩ := HV.out
  by_cases h100 : 100 < ms.length
  · have hz : (100 : Int) < (ms.length : Int) := by omega
    go_enter Try.func3, Try.ntmps3
    go_wp2_with fail
    rw [HW0.out]
    refine (HA.out _).mono ?_
    rintro e w2 ⟨rfl, hb2⟩
    have HB2 := Lib.hid (bnext HB.out hb2)
    clear hb2 HB
    go_wp2
    go_ret
    exact ⟨rfl, HB2.out⟩
  · have hz : ¬ (100 : Int) < (ms.length : Int) := by omega
    have r0 : ∀ p : Later w0, p.val.cell? ⟨w.heap.size, 0, none⟩ = some (.int .i64 k) := fun p => (HR.out.below p.h).1
    have r1 : ∀ p : Later w0, p.val.cell? ⟨w.heap.size, 1, none⟩ = some (.int .i64 c) := fun p => (HR.out.below p.h).2.1
    have r2 : ∀ p : Later w0, p.val.cell? ⟨w.heap.size, 2, none⟩ = some (.int .i64 f) := fun p => (HR.out.below p.h).2.2
    have v0' : ∀ p : Later w0, p.val.cell? ⟨w.heap.size + 1, 0, none⟩ = some (.slice ad ms.length cp) := fun p => (HV.out.below p.h).2.1
    have v1' : ∀ p : Later w0, p.val.cell? ⟨w.heap.size + 1, 1, none⟩ = some (.int .i64 k2) := fun p => (HV.out.below p.h).2.2.1
    have v2' : ∀ p : Later w0, p.val.cell? ⟨w.heap.size + 1, 2, none⟩ = some (.int .i64 c2) := fun p => (HV.out.below p.h).2.2.2.1
    have v3' : ∀ p : Later w0, p.val.cell? ⟨w.heap.size + 1, 3, none⟩ = some (.int .i64 f2) := fun p => (HV.out.below p.h).2.2.2.2
    have C1 := Lib.hid (fun p : Later w0 => Calls.later (HC1.out p.val))
    have C2 := Lib.hid (fun p : Later w0 => Calls.later (HC2.out p.val))
    have C3 := Lib.hid (fun p : Later w0 => Calls.later (HC3.out p.val (H0.out.below p.h)))
    have C4 := Lib.hid (fun p : Later w0 => Calls.later (HC4.out p.val (H0.out.below p.h)))
    have C5 := Lib.hid (fun p : Later w0 => Calls.later (HF.out p.val))
    have C6 := Lib.hid (fun p : Later w0 => Calls.later (HA.out p.val))
    clear HC1 HC2 HC3 HC4 HF HA H0 HR
    by_cases he : er = 0
    · subst he
      go_enter Try.func3, Try.ntmps3
      go_wp2
      rw [HW0.out]
      refine wp_region_later (by kernel_rfl) (by kernel_rfl) ?_
      repeat (go_big_quiet_step (first | (go_at_call 12; with_reducible exact C1.out _) | (go_at_call 13; with_reducible exact C2.out _) | (go_at_call 14; with_reducible exact C3.out _) | (go_at_call 15; with_reducible exact C4.out _) | (go_at_call 16; with_reducible exact C5.out _) | (go_at_call 11; with_reducible exact C6.out _)))
      refine wpQuiet_nil ?_
      rintro _ ⟨p, rfl⟩
      go_wp2
      go_ret
      exact ⟨rfl, bnext HB.out p.h⟩
    · have hne : (er != 0) = true := bne_t he
      have hne2 : (er == 0) = false := beq_f he
      clear he
      go_enter Try.func3, Try.ntmps3
      go_wp2
      rw [HW0.out]
      refine wp_region_later (by kernel_rfl) (by kernel_rfl) ?_
      repeat (go_big_quiet_step (first | (go_at_call 12; with_reducible exact C1.out _) | (go_at_call 13; with_reducible exact C2.out _) | (go_at_call 14; with_reducible exact C3.out _) | (go_at_call 15; with_reducible exact C4.out _) | (go_at_call 16; with_reducible exact C5.out _) | (go_at_call 11; with_reducible exact C6.out _)))
      refine wpQuiet_nil ?_
      rintro _ ⟨p, rfl⟩
      go_wp2
      go_ret
      exact ⟨rfl, bnext HB.out p.h⟩

end Go.Proofs.Ytbbgjckiooejhaa
