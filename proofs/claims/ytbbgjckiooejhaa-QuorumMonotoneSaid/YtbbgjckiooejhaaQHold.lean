/-
  The calls of holdsQuorum and IsQuorum: each says what the plain quorum test says. Conditions: the members read; for holdsQuorum the view is valid and the mask has members only.
-/
import Derived.IntWalk
import Derived.Test.YtbbgjckiooejhaaQRows
namespace Go.Proofs.Ytbbgjckiooejhaa
open Go.RowKit
open QM (Mem)

theorem pc_le (s : Nat) : QM.pc s ≤ 16 := Nat.le_trans List.countP_le_length (by simp)
theorem tb_memL {ms : List Mem} {m : Mem} (hm : m ∈ ms) : QM.tb (QM.memL ms) m.1 = true := (QM.memL_bit m.1.toNat).2 ⟨m, hm, rfl⟩

set_option maxRecDepth 100000 in
set_option maxHeartbeats 1000000 in
theorem cHolds (sv : Value) (k c f : Int) (ms : List Mem) (s : Nat) (w : World) (hr : RdM w sv ms) (hval : QM.Val 0 ms) (he : QM.errR k c f = 0) (hsub : QM.Sub ms s) :
    Calls Try.prog 33 #[vw sv k c f, .int .u16 (s : Int)] w fun e w' => e = .returned (.bool (QM.qm k c f ms s)) ∧ Below w.heap.size w w' := by
  have hlen := hval.length (Int.le_refl 0) (by decide)
  have hs : s < 65536 := Nat.lt_trans (hsub.lt hval) (by decide)
  have hcnt := QM.cnt_mask hval hsub
  have hv := VBox.fresh w sv k c f
  have hB := below_fresh w (.cells #[sv, .int .i64 k, .int .i64 c, .int .i64 f] 26)
  have h0 := hr.below hB
  obtain ⟨ad, cp, rfl, hcp, hl⟩ := hr.shape
  have H := Lib.hid h0
  have HV := Lib.hid hv
  have HB := Lib.hid hB
  have HL := Lib.hid hval
  obtain ⟨R, hR⟩ : ∃ R, R = QM.qm k c f ms s := ⟨_, rfl⟩
  rw [← hR]
  clear h0 hv hB hr hval
  rcases QM.errR_zero he with ⟨rfl, rfl, rfl⟩ | ⟨rfl, rfl, rfl⟩ | ⟨rfl, hc1, hc2, rfl⟩ | ⟨rfl, rfl, hf0, hf1⟩
  · have HR := Lib.hid (show R = decide (ms.length < 2 * QM.pc s) by rw [hR, ← hcnt]; rfl)
    have HS := Lib.hid (fun w => cSize s w hs)
    have hpc := pc_le s
    clear hR hcnt he
    generalize QM.pc s = n at HR HS hpc
    go_enter Try.func33, Try.ntmps33
    go_wp2_with fail
    refine (HS.out _).mono ?_
    rintro e w1 ⟨rfl, hb1⟩
    go_wp2
    go_ret
    refine ⟨ret_bool ?_, bnext HB.out hb1⟩
    rw [HR.out, decide_eq_decide]
    omega
  · have hwt : QM.wt (QM.tb (QM.memL ms)) ms = QM.wt (fun _ => true) ms := QM.wt_congr fun m hm => tb_memL hm
    have HR := Lib.hid (show R = decide (QM.wt (QM.tb (QM.memL ms)) ms < 2 * QM.wt (QM.tb s) ms) by rw [hR, hwt]; rfl)
    have hn1 := QM.wt_nonneg (p := QM.tb s) (ms := ms) (fun m hm => by have := HL.out.mem m hm; omega)
    have hn2 := QM.wt_nonneg (p := QM.tb (QM.memL ms)) (ms := ms) (fun m hm => by have := HL.out.mem m hm; omega)
    have hm1 := QM.wt_le (p := QM.tb s) (ms := ms) (fun m hm => by have := HL.out.mem m hm; omega)
    have hm2 := QM.wt_le (p := QM.tb (QM.memL ms)) (ms := ms) (fun m hm => by have := HL.out.mem m hm; omega)
    have hk1 := QM.cnt_le (QM.tb s) ms
    have hk2 := QM.cnt_le (QM.tb (QM.memL ms)) ms
    have hu1 : QM.wt (QM.tb s) ms ≤ 108 := by omega
    have hu2 : QM.wt (QM.tb (QM.memL ms)) ms ≤ 108 := by omega
    clear hm1 hm2 hk1 hk2 hR hcnt he hwt
    have hmlt := Nat.lt_trans (QM.memL_lt HL.out) (show 8192 < 65536 by decide)
    generalize hw0 : w.alloc (.cells #[.slice ad ms.length cp, .int .i64 2, .int .i64 0, .int .i64 0] 26) = w0 at H HV HB
    have HW1 := Lib.hid (fun p : Later w0 => Calls.later (cWeight (.slice ad ms.length cp) 2 0 0 ms s p.val (H.out.below p.h) HL.out hs))
    have HW2 := Lib.hid (fun p : Later w0 => Calls.later (cWeight (.slice ad ms.length cp) 2 0 0 ms (QM.memL ms) p.val (H.out.below p.h) HL.out hmlt))
    have HM := Lib.hid (fun p : Later w0 => Calls.later (cMembersOf (.slice ad ms.length cp) ms 0 p.val (H.out.below p.h) HL.out))
    have v0 : ∀ p : Later w0, p.val.cell? ⟨w.heap.size, 0, none⟩ = some (.slice ad ms.length cp) := fun p => (HV.out.below p.h).2.1
    have v1 : ∀ p : Later w0, p.val.cell? ⟨w.heap.size, 1, none⟩ = some (.int .i64 2) := fun p => (HV.out.below p.h).2.2.1
    have v2 : ∀ p : Later w0, p.val.cell? ⟨w.heap.size, 2, none⟩ = some (.int .i64 0) := fun p => (HV.out.below p.h).2.2.2.1
    have v3 : ∀ p : Later w0, p.val.cell? ⟨w.heap.size, 3, none⟩ = some (.int .i64 0) := fun p => (HV.out.below p.h).2.2.2.2
    have HW0 := Lib.hid hw0
    clear hw0
    generalize QM.wt (QM.tb s) ms = a at HR hn1 hu1 HW1
    generalize QM.wt (QM.tb (QM.memL ms)) ms = b at HR hn2 hu2 HW2
    generalize QM.memL ms = mk at HW2 HM hmlt
    go_enter Try.func33, Try.ntmps33
    go_wp2
    rw [HW0.out]
    refine wp_region_later (by kernel_rfl) (by kernel_rfl) ?_
    repeat (go_big_quiet_step (first | (go_at_call 35; with_reducible exact HM.out _) | (go_at_call 48; with_reducible exact HW1.out _) | (go_at_call 48; with_reducible exact HW2.out _)))
    refine wpQuiet_nil ?_
    rintro _ ⟨p, rfl⟩
    go_wp2
    go_ret
    refine ⟨ret_bool ?_, HB.out.trans (p.h.mono HB.out.size)⟩
    rw [HR.out]
  · have HR := Lib.hid (show R = QM.grid c.toNat (QM.tb s) ms from hR)
    have hg := fun w hw => cHoldsRows (.slice ad ms.length cp) 3 0 c.toNat s ms w (by omega) (by omega) hs hw HL.out
    rw [show ((c.toNat : Nat) : Int) = c by omega] at hg
    have HG := Lib.hid hg
    clear hg hR hcnt he
    generalize QM.grid c.toNat (QM.tb s) ms = g at HR HG
    generalize hw0 : w.alloc (.cells #[.slice ad ms.length cp, .int .i64 3, .int .i64 c, .int .i64 0] 26) = w0 at H HV HB
    obtain ⟨v0, v1, v2, v3, v4⟩ := HV.out
    have HW0 := Lib.hid hw0
    clear hw0
    go_enter Try.func33, Try.ntmps33
    go_wp2_with fail
    rw [HW0.out]
    refine (HG.out _ H.out).mono ?_
    rintro e w1 ⟨rfl, hb1⟩
    go_wp2
    go_ret
    rw [HR.out]
    exact ⟨rfl, bnext HB.out hb1⟩
  · have HR := Lib.hid (show R = decide (((ms.length : Int) + f + 2) / 2 ≤ (QM.pc s : Int)) by rw [hR, ← hcnt]; rfl)
    have hpc := pc_le s
    clear hR hcnt he
    generalize hw0 : w.alloc (.cells #[.slice ad ms.length cp, .int .i64 4, .int .i64 0, .int .i64 f] 26) = w0 at H HV HB
    have HS := Lib.hid (fun p : Later w0 => Calls.later (cSize s p.val hs))
    generalize QM.pc s = n at HR HS hpc
    have v0 : ∀ p : Later w0, p.val.cell? ⟨w.heap.size, 0, none⟩ = some (.slice ad ms.length cp) := fun p => (HV.out.below p.h).2.1
    have v3 : ∀ p : Later w0, p.val.cell? ⟨w.heap.size, 3, none⟩ = some (.int .i64 f) := fun p => (HV.out.below p.h).2.2.2.2
    have HW0 := Lib.hid hw0
    clear hw0
    have hd1 : IntKind.i64.wrap ((ms.length : Int) + f) = (ms.length : Int) + f := IntWalk.i64_in _ (by omega)
    have hd2 : IntKind.i64.wrap ((ms.length : Int) + f + 2) = (ms.length : Int) + f + 2 := IntWalk.i64_in _ (by omega)
    have hd3 : (0 : Int) ≤ (ms.length : Int) + f + 2 := by omega
    go_enter Try.func33, Try.ntmps33
    go_wp2
    rw [HW0.out]
    refine wp_region_later (by kernel_rfl) (by kernel_rfl) ?_
    repeat (go_big_quiet_step ((go_at_call 45; with_reducible exact HS.out _)))
    refine wpQuiet_nil ?_
    rintro _ ⟨p, rfl⟩
    go_wp2
    go_ret
    refine ⟨ret_bool ?_, HB.out.trans (p.h.mono HB.out.size)⟩
    rw [HR.out]

theorem qm_set {k c f : Int} {ms : List Mem} (hval : QM.Val 0 ms) (xs : List Int) : QM.qm k c f ms (QM.setL xs &&& QM.memL ms) = QM.isQ k c f ms fun x => decide (x ∈ xs) := by
  refine QM.isQ_congr fun m hm => ?_
  have := hval.mem m hm
  rw [← QM.setL_bit xs m.1 (decide_eq_true ⟨by omega, by omega⟩)]
  unfold QM.tb
  rw [Nat.testBit_and, (QM.memL_bit m.1.toNat).2 ⟨m, hm, rfl⟩, Bool.and_true]

set_option maxRecDepth 100000 in
set_option maxHeartbeats 1000000 in
theorem cIsQuorum (sv xv : Value) (k c f : Int) (ms : List Mem) (xs : List Int) (w : World) (hr : RdM w sv ms) (hx : RdI w xv xs) (he : QM.errV k c f ms = 0) :
    Calls Try.prog 18 #[vw sv k c f, xv] w fun e w' => e = .returned (.bool (QM.isQ k c f ms fun x => decide (x ∈ xs))) ∧ Below w.heap.size w w' := by
  obtain ⟨her, hval⟩ := QM.errV_zero.1 he
  have hv := VBox.fresh w sv k c f
  have hB := below_fresh w (.cells #[sv, .int .i64 k, .int .i64 c, .int .i64 f] 26)
  have h0 := hr.below hB
  have x0 := hx.below hB
  obtain ⟨ad, cp, rfl, hcp, hl⟩ := hr.shape
  obtain ⟨ax, cx, rfl, hcx, hlx⟩ := hx.shape
  have hvl := fun w hw => cValidate (.slice ad ms.length cp) k c f ms w hw
  rw [he] at hvl
  have HC := Lib.hid hvl
  have H := Lib.hid h0
  have HX := Lib.hid x0
  have HV := Lib.hid hv
  have HB := Lib.hid hB
  have HL := Lib.hid hval
  have hsub : QM.Sub ms (QM.setL xs &&& QM.memL ms) := QM.sub_and (QM.sub_mem ms)
  have hslt := Nat.lt_trans (QM.setL_lt xs) (show 8192 < 65536 by decide)
  have hmlt := Nat.lt_trans (QM.memL_lt hval) (show 8192 < 65536 by decide)
  have hand := u16_and_nat _ _ hslt hmlt
  have HQ := Lib.hid (fun w hw => cHolds (.slice ad ms.length cp) k c f ms (QM.setL xs &&& QM.memL ms) w hw hval her hsub)
  rw [qm_set hval] at HQ
  clear h0 x0 hv hB hr hx hval hvl he her hsub
  generalize (QM.isQ k c f ms fun x => decide (x ∈ xs)) = R at HQ ⊢
  generalize (QM.setL xs &&& QM.memL ms) = z at HQ hand
  generalize hw0 : w.alloc (.cells #[.slice ad ms.length cp, .int .i64 k, .int .i64 c, .int .i64 f] 26) = w0 at H HV HB HX
  obtain ⟨v0, v1, v2, v3, v4⟩ := HV.out
  have HW0 := Lib.hid hw0
  clear hw0
  go_enter Try.func18, Try.ntmps18
  go_wp2_with fail
  rw [HW0.out]
  refine (HC.out _ H.out).mono ?_
  rintro e w1 ⟨rfl, hb1⟩
  clear v0 v1 v2 v3 v4 HC
  have HS := Lib.hid (fun p : Later w1 => Calls.later_same (cSetOf (.slice ax xs.length cx) xs p.val ((HX.out.below hb1).below p.h)))
  have HM := Lib.hid (fun p : Later w1 => Calls.later (cMembersOf (.slice ad ms.length cp) ms 0 p.val ((H.out.below hb1).below p.h) HL.out))
  have HH := Lib.hid (fun p : Later w1 => Calls.later (HQ.out p.val ((H.out.below hb1).below p.h)))
  have v0 : ∀ p : Later w1, p.val.cell? ⟨w.heap.size, 0, none⟩ = some (.slice ad ms.length cp) := fun p => ((HV.out.below hb1).below p.h).2.1
  have v1 : ∀ p : Later w1, p.val.cell? ⟨w.heap.size, 1, none⟩ = some (.int .i64 k) := fun p => ((HV.out.below hb1).below p.h).2.2.1
  have v2 : ∀ p : Later w1, p.val.cell? ⟨w.heap.size, 2, none⟩ = some (.int .i64 c) := fun p => ((HV.out.below hb1).below p.h).2.2.2.1
  have v3 : ∀ p : Later w1, p.val.cell? ⟨w.heap.size, 3, none⟩ = some (.int .i64 f) := fun p => ((HV.out.below hb1).below p.h).2.2.2.2
  have HB1 := Lib.hid (bnext HB.out hb1)
  generalize QM.setL xs = a at hand HS hslt
  generalize QM.memL ms = b at hand HM hmlt
  clear hb1 H HX HV HB HL HQ
  go_wp2
  refine wp_region_later (by kernel_rfl) (by kernel_rfl) ?_
  repeat (go_big_quiet_step (first | (go_at_call 34; with_reducible exact HS.out _) | (go_at_call 35; with_reducible exact HM.out _) | (go_at_call 33; with_reducible exact HH.out _)))
  refine wpQuiet_nil ?_
  rintro _ ⟨p, rfl⟩
  go_wp2
  go_ret
  exact ⟨rfl, bnext HB1.out p.h⟩

end Go.Proofs.Ytbbgjckiooejhaa
