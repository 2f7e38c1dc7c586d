/-
  The calls of update.ValidateEffect, Commutes, Validate and what they call. Conditions: the tables of unicode/utf8 are laid; the effects read and are such as can come in.
-/
import Derived.Test.YtcalnapdpnnljaaDoorUName
import Derived.Test.YtcalnapdpnnljaaDoorURef5
import Derived.Test.YtcalnapdpnnljaaDoorUOpen
import Derived.Test.YtcalnapdpnnljaaDoorUKit
namespace Go.Proofs.YtcalnapdpnnljaaDoor
set_option linter.unusedSimpArgs false
open Go.RowKit
open UM (Ef)

/-- Both names are no longer than a slice may be. -/
def NmFit (e : Ef) : Prop := e.2.1.size ≤ maxLen ∧ e.2.2.1.size ≤ maxLen
theorem EfFit.nm {e : Ef} (h : EfFit e) : NmFit e := ⟨h.2.1, h.2.2.1⟩

namespace UM
def fits (k n : Int) : Bool := if k = 3 then decide (-1000000 ≤ n ∧ n ≤ 1000000) else if k = 4 ∨ k = 5 then decide (n = 0) else true
def takes (k : Int) : Bool := decide (k = 1 ∨ k = 4)
theorem fits_iff (k n : Int) : fits k n = true ↔ ¬ (k = 3 ∧ (n < -1000000 ∨ 1000000 < n)) ∧ ¬ ((k = 4 ∨ k = 5) ∧ n ≠ 0) := by
  unfold fits
  (repeat' split) <;> simp only [decide_eq_true_eq, true_iff] <;> omega
theorem takes_iff (k : Int) : takes k = true ↔ (k = 1 ∨ k = 4) := by unfold takes; simp
end UM

set_option maxRecDepth 100000 in
set_option maxHeartbeats 1000000 in
theorem cFitsN (k n : Int) (w : World) : Calls Tryd.prog 30 #[.int .i64 k, .int .i64 n] w fun e w' => e = .returned (.bool (UM.fits k n)) ∧ w' = w := by
  obtain ⟨R, hR⟩ : ∃ R, R = UM.fits k n := ⟨_, rfl⟩
  rw [← hR]
  unfold UM.fits at hR
  have HR := Lib.hid hR
  clear hR
  go_enter Tryd.func30, Tryd.ntmps30
  go_wp2
  all_goals
    go_ret
    refine ⟨ret_bool ?_, rfl⟩
    have hr := HR.out
    rw [hr]
    clear HR
    (try simp only [beq_iff_eq, beq_eq_false_iff_ne, ne_eq, decide_eq_true_eq, decide_eq_false_iff_not] at *)
    (repeat' split) <;> first | rfl | omega | (simp; omega)

set_option maxRecDepth 100000 in
set_option maxHeartbeats 1000000 in
theorem cTakes (k : Int) (w : World) : Calls Tryd.prog 31 #[.int .i64 k] w fun e w' => e = .returned (.bool (UM.takes k)) ∧ w' = w := by
  obtain ⟨R, hR⟩ : ∃ R, R = UM.takes k := ⟨_, rfl⟩
  rw [← hR]
  unfold UM.takes at hR
  have HR := Lib.hid hR
  clear hR
  go_enter Tryd.func31, Tryd.ntmps31
  go_wp2
  all_goals
    go_ret
    refine ⟨ret_bool ?_, rfl⟩
    have hr := HR.out
    rw [hr]
    clear HR
    rw [Bool.eq_iff_iff]
    (try simp only [Bool.or_eq_true, Bool.and_eq_true, beq_iff_eq, beq_eq_false_iff_ne, ne_eq, decide_eq_true_eq, decide_eq_false_iff_not] at *) <;> first | omega | (simp <;> omega) | simp_all

theorem cIsClient (c : Int) (w : World) : Calls Tryd.prog 32 #[.int .i64 c] w fun e w' => e = .returned (.bool (UM.isCl c)) ∧ w' = w := (cIsCliP c w).mono fun _ _ h => ⟨h.1, h.2.symm⟩
set_option maxRecDepth 100000 in
set_option maxHeartbeats 4000000 in
theorem cValEff (k : Int) (o f : ByteArray) (n : Int) (s : ByteArray) (w : World) (hf : NmFit (k, o, f, n, s)) (hT : Tb w) :
    Calls Tryd.prog 11 #[ev k o f n s] w fun e w' => e = .returned (.int .i64 (UM.errE (k, o, f, n, s))) ∧ Below w.heap.size w w' := by
  obtain ⟨R, hR⟩ : ∃ R, R = UM.errE (k, o, f, n, s) := ⟨_, rfl⟩
  rw [← hR]
  unfold UM.errE at hR
  have HR := Lib.hid hR
  clear hR
  have hb := below_fresh w (.cells #[.int .i64 k, .string o, .string f, .int .i64 n, .string s] 23)
  have hx := OE.fresh w (.int .i64 k) (.string o) (.string f) (.int .i64 n) (.string s)
  obtain ⟨w1, hw1⟩ : ∃ z, w.alloc (.cells #[.int .i64 k, .string o, .string f, .int .i64 n, .string s] 23) = z := ⟨_, rfl⟩
  rw [hw1] at hx hb
  have HW := Lib.hid hw1
  have HB := Lib.hid hb
  have HX := Lib.hid hx
  have CO : Hid (∀ p : Later w1, Calls Tryd.prog 29 #[.string o] p.val fun e w'' => e = .returned (.int .i64 (UM.ns o : Nat)) ∧ ∃ q : Later w1, w'' = q.val) := fun p => Calls.later (cNameSize o p.val hf.1 ((hT.below hb).below p.h))
  have CF : Hid (∀ p : Later w1, Calls Tryd.prog 29 #[.string f] p.val fun e w'' => e = .returned (.int .i64 (UM.ns f : Nat)) ∧ ∃ q : Later w1, w'' = q.val) := fun p => Calls.later (cNameSize f p.val hf.2 ((hT.below hb).below p.h))
  have e1 : ∀ p : Later w1, p.val.cell? ⟨w.heap.size, 1, none⟩ = some (.string o) := fun p => (HX.out.below p.h).cells.2.1
  have e2 : ∀ p : Later w1, p.val.cell? ⟨w.heap.size, 2, none⟩ = some (.string f) := fun p => (HX.out.below p.h).cells.2.2.1
  have HO := Lib.hid (UM.ns_ok o)
  have HF := Lib.hid (UM.ns_ok f)
  have HOL := Lib.hid (UM.ns_le o)
  have HFL := Lib.hid (UM.ns_le f)
  have HFI := Lib.hid (fun w' => cFitsN k n w')
  have HTA := Lib.hid (fun w' => cTakes k w')
  have HFD := Lib.hid (UM.fits_iff k n)
  have HTD := Lib.hid (UM.takes_iff k)
  clear hw1 hb hx hf hT
  generalize UM.ns o = NO at CO HO HOL
  generalize UM.ns f = NF at CF HF HFL
  generalize UM.fits k n = B at HFI HFD
  generalize UM.takes k = C at HTA HTD
  go_enter Tryd.func11, Tryd.ntmps11
  go_upto_region 1 with fail
  rw [HW.out]
  clear HW
  refine wp_region_later (by kernel_rfl) (by kernel_rfl) ?_
  repeat (go_big_quiet_step (first | (go_at_call 29; first | with_reducible exact CO.out _ | with_reducible exact CF.out _)))
  refine wpQuiet_nil ?_
  rintro _ ⟨p, rfl⟩
  have HX2 := Lib.hid (HX.out.below p.h)
  have HB2 := Lib.hid (bnext HB.out p.h)
  clear e1 e2 CO CF HX HB
  obtain ⟨w2, hw2⟩ : ∃ z, p.val = z := ⟨_, rfl⟩
  rw [hw2] at HX2 HB2 ⊢
  clear hw2
  obtain ⟨c0, c1, c2, c3, c4, _⟩ := HX2.out.cells
  have es := isEmpty_size s
  cases B <;> cases C
  all_goals
    go_wp2_with (first | (go_at_call 30; refine (HFI.out _).mono ?_; rintro e w4 ⟨rfl, rfl⟩) | (go_at_call 31; refine (HTA.out _).mono ?_; rintro e w4 ⟨rfl, rfl⟩))
  all_goals
    go_ret
    refine ⟨ret_int ?_, HB2.out⟩
    have hr := HR.out
    have ho := HO.out
    have hf := HF.out
    have hol := HOL.out
    have hfl := HFL.out
    have hbd := HFD.out
    have htd := HTD.out
    rw [hr]
    clear es c0 c1 c2 c3 c4 HR HB2 HO HF HOL HFL HTD HX2 HFI HTA HFD
    (try simp only [← ByteArray.size_eq_zero_iff] at *)
    (try simp only [ByteArray.size_empty] at *)
    (try simp only [Bool.false_eq_true, true_iff, false_iff, bne_iff_ne, bne_eq_false_iff_eq, ne_eq, Bool.not_eq_true', Bool.not_eq_false', decide_eq_true_eq, decide_eq_false_iff_not, beq_iff_eq, beq_eq_false_iff_ne] at *)
    (repeat' split) <;> first | rfl | omega

/-! ### Which effects commute -/
set_option maxRecDepth 100000 in
theorem cComm1 (k : Int) (o f : ByteArray) (n : Int) (s : ByteArray) (w : World) :
    Calls Tryd.prog 35 #[ev k o f n s] w fun e w' => e = .returned (.bool (k == 1)) ∧ Below w.heap.size w w' := by
  have hb := below_fresh w (.cells #[.int .i64 k, .string o, .string f, .int .i64 n, .string s] 23)
  obtain ⟨c0, _⟩ := (OE.fresh w (.int .i64 k) (.string o) (.string f) (.int .i64 n) (.string s)).cells
  go_enter Tryd.func35, Tryd.ntmps35
  go_wp2
  go_ret
  exact ⟨rfl, hb⟩

set_option maxRecDepth 100000 in
set_option maxHeartbeats 1000000 in
theorem uIndexFunc (v : Value) (xs : List Ef) (w : World) (h : RdEf w v xs) :
    Calls Tryd.prog 55 #[v, .func (.func 35) #[] #[]] w fun e w' => ∃ r : Int, e = .returned (.int .i64 r) ∧ decide (0 ≤ r) = xs.any (fun y => y.1 == 1) ∧ Below w.heap.size w w' := by
  have eF := enters_of Tryd.func35 (by kernel_rfl) rfl
  obtain ⟨ad, c, rfl, hc, hl⟩ := h.shape
  obtain ⟨R, hR⟩ : ∃ R, R = xs.any (fun y => y.1 == 1) := ⟨_, rfl⟩
  rw [← hR]
  have HR := Lib.hid hR
  have HX := Lib.hid h
  clear hR h
  go_enter Tryd.func55, Tryd.ntmps55
  go_wp2
  go_loopw [8] (fun i wr => ∃ j : Nat, j ≤ xs.length ∧ i = .int .i64 j ∧ Below w.heap.size w wr ∧ Hid (R = (xs.drop j).any (fun y => y.1 == 1))) (fun i _ => xs.length - (intOf i).toNat)
  case atStart => exact ⟨0, Nat.zero_le _, rfl, Below.refl _ _, HR.out⟩
  case round =>
    obtain ⟨j, hk, rfl, hbl, he⟩ := hrel
    by_cases hlt : j < xs.length
    · have hq : (j : Int) < (xs.length : Int) := by omega
      have hdx := Lib.hid (drop_get hlt)
      have hat := List.getElem?_eq_getElem hlt
      generalize xs[j] = y at hdx hat
      obtain ⟨k', o', f', n', s'⟩ := y
      obtain ⟨b, o, hi, hb, d0, d1, d2, d3, d4⟩ := atEf (HX.out.below hbl) j _ _ _ _ _ hat
      have hS := Lib.hid (cComm1 k' o' f' n' s' wr)
      have e2 := Lib.hid (show R = ((k' == 1) || (xs.drop (j + 1)).any (fun y => y.1 == 1)) by rw [he.out, hdx.out]; rfl)
      clear he hdx hat
      generalize (k' == 1) = B at hS e2
      cases B
      · have e3 := Lib.hid (show R = (xs.drop (j + 1)).any (fun y => y.1 == 1) by rw [e2.out, Bool.false_or])
        clear e2
        go_wp2_with (go_at_call 35; refine hS.out.mono ?_; rintro e w4 ⟨rfl, h4⟩)
        go_roundw
        case rel => exact ⟨j + 1, by omega, by go_num, bnext hbl h4, e3⟩
        case measure => simp [intOf]; omega
      · have e3 := Lib.hid (show R = true by rw [e2.out, Bool.true_or])
        clear e2
        go_wp2_with (go_at_call 35; refine hS.out.mono ?_; rintro e w4 ⟨rfl, h4⟩)
        go_ret
        exact ⟨_, rfl, by rw [e3.out]; exact decide_eq_true (by omega), bnext hbl h4⟩
    · have hq : ¬ ((j : Int) < (xs.length : Int)) := by omega
      have e2 := Lib.hid (show R = false by rw [he.out, List.drop_of_length_le (by omega)]; rfl)
      clear he HR
      go_wp2
      go_ret
      exact ⟨_, rfl, by rw [e2.out]; rfl, hbl⟩

set_option maxRecDepth 100000 in
set_option maxHeartbeats 1000000 in
theorem uContainsFunc (v : Value) (xs : List Ef) (w : World) (h : RdEf w v xs) :
    Calls Tryd.prog 34 #[v, .func (.func 35) #[] #[]] w fun e w' => e = .returned (.bool (xs.any (fun y => y.1 == 1))) ∧ Below w.heap.size w w' := by
  have HI := Lib.hid (uIndexFunc v xs w h)
  generalize xs.any (fun y => y.1 == 1) = R at HI
  clear h
  go_enter Tryd.func34, Tryd.ntmps34
  go_wp2_with fail
  refine HI.out.mono ?_
  rintro e w1 ⟨r, rfl, hr, hb⟩
  clear HI
  go_wp2
  go_ret
  exact ⟨rfl, hb⟩

theorem com_any (es : List Ef) : (!es.any (fun y => y.1 == 1)) = UM.com es := by
  unfold UM.com
  rw [List.any_eq_not_all_not, Bool.not_not]
  congr 1
  funext e
  by_cases h : e.1 = 1 <;> simp [h]

set_option maxRecDepth 100000 in
set_option maxHeartbeats 1000000 in
theorem cCommutes (c q t : Int) (v : Value) (es : List Ef) (w : World) (h : RdEf w v es) :
    Calls Tryd.prog 16 #[uv c q t v] w fun e w' => e = .returned (.bool (UM.com es)) ∧ Below w.heap.size w w' := by
  have hb := below_fresh w (.cells #[.int .i64 c, .int .i64 q, .int .i64 t, v] 30)
  have hx := OU.fresh w c q t v
  obtain ⟨w1, hw1⟩ : ∃ z, w.alloc (.cells #[.int .i64 c, .int .i64 q, .int .i64 t, v] 30) = z := ⟨_, rfl⟩
  rw [hw1] at hb hx
  have HW := Lib.hid hw1
  have HB := Lib.hid hb
  have HC := Lib.hid (uContainsFunc v es w1 (h.below hb))
  have HE := Lib.hid (com_any es)
  obtain ⟨a, k, rfl, hk, _⟩ := h.shape
  obtain ⟨c0, c1, c2, c3, _⟩ := hx.cells
  clear hw1 hb hx h
  generalize UM.com es = R at HE
  generalize es.any (fun y => y.1 == 1) = A at HC HE
  go_enter Tryd.func16, Tryd.ntmps16
  go_upto_region 1 with fail
  rw [HW.out]
  go_wp2_with fail
  refine HC.out.mono ?_
  rintro e w2 ⟨rfl, hb2⟩
  go_wp2
  go_ret
  exact ⟨ret_bool HE.out, bnext HB.out hb2⟩

end Go.Proofs.YtcalnapdpnnljaaDoor
