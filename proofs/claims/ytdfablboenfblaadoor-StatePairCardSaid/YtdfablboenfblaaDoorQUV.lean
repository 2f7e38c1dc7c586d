/-
  The calls of update.ValidateEffect, Commutes, Validate and what they call. Conditions: the tables of unicode/utf8 are laid; the effects read and are such as can come in.
  The call of update.Validate: it returns the first error of P11.2. Conditions: the tables of unicode/utf8 are laid; the effects read and are such as can come in. (Written by mk_uvl.py.)
-/
import Derived.Test.YtdfablboenfblaaDoorQUName
import Derived.Test.YtdfablboenfblaaDoorQUR
import Derived.Test.YtdfablboenfblaaDoorQUOpen
import Derived.Test.YtdfablboenfblaaDoorQUKit
namespace Go.Proofs.YtdfablboenfblaaDoor
set_option linter.unusedSimpArgs false
open Go.RowKit
open UM (Ef)

/-- Both names are no longer than a slice may be. -/
def NmFit (e : Ef) : Prop := e.2.1.size ≤ maxLen ∧ e.2.2.1.size ≤ maxLen
theorem EfFit.nm {e : Ef} (h : EfFit e) : NmFit e := ⟨h.2.1, h.2.2.1⟩

namespace UM
def fits (k n : Int) : Bool := if k = 3 then decide (-1000000 ≤ n ∧ n ≤ 1000000) else if k = 4 ∨ k = 5 then decide (n = 0) else true
def takes (k : Int) : Bool := decide (k = 1 ∨ k = 4)
theorem fits_iff (k n : Int) : fits k n = true ↔ ¬ (k = 3 ∧ (n < -1000000 ∨ 1000000 < n)) ∧ ¬ ((k = 4 ∨ k = 5) ∧ n ≠ 0) := by
  unfold fits
  (repeat' split) <;> simp only [decide_eq_true_eq, true_iff] <;> omega
theorem takes_iff (k : Int) : takes k = true ↔ (k = 1 ∨ k = 4) := by unfold takes; simp
end UM

set_option maxRecDepth 100000 in
set_option maxHeartbeats 1000000 in
theorem cFitsN (k n : Int) (w : World) : Calls Tryd.prog 112 #[.int .i64 k, .int .i64 n] w fun e w' => e = .returned (.bool (UM.fits k n)) ∧ w' = w := by
  obtain ⟨R, hR⟩ : ∃ R, R = UM.fits k n := ⟨_, rfl⟩
  rw [← hR]
  unfold UM.fits at hR
  have HR := Lib.hid hR
  clear hR
  go_enter Tryd.func112, Tryd.ntmps112
  go_wp2
  all_goals
    go_ret
    refine ⟨ret_bool ?_, rfl⟩
    have hr := HR.out
    rw [hr]
    clear HR
    (try simp only [beq_iff_eq, beq_eq_false_iff_ne, ne_eq, decide_eq_true_eq, decide_eq_false_iff_not] at *)
    (repeat' split) <;> first | rfl | omega | (simp; omega)

set_option maxRecDepth 100000 in
set_option maxHeartbeats 1000000 in
theorem cTakes (k : Int) (w : World) : Calls Tryd.prog 113 #[.int .i64 k] w fun e w' => e = .returned (.bool (UM.takes k)) ∧ w' = w := by
  obtain ⟨R, hR⟩ : ∃ R, R = UM.takes k := ⟨_, rfl⟩
  rw [← hR]
  unfold UM.takes at hR
  have HR := Lib.hid hR
  clear hR
  go_enter Tryd.func113, Tryd.ntmps113
  go_wp2
  all_goals
    go_ret
    refine ⟨ret_bool ?_, rfl⟩
    have hr := HR.out
    rw [hr]
    clear HR
    rw [Bool.eq_iff_iff]
    (try simp only [Bool.or_eq_true, Bool.and_eq_true, beq_iff_eq, beq_eq_false_iff_ne, ne_eq, decide_eq_true_eq, decide_eq_false_iff_not] at *) <;> first | omega | (simp <;> omega) | simp_all

theorem cIsClient (c : Int) (w : World) : Calls Tryd.prog 85 #[.int .i64 c] w fun e w' => e = .returned (.bool (UM.isCl c)) ∧ w' = w := (cIsCliP c w).mono fun _ _ h => ⟨h.1, h.2.symm⟩
set_option maxRecDepth 100000 in
set_option maxHeartbeats 4000000 in
theorem cValEff (k : Int) (o f : ByteArray) (n : Int) (s : ByteArray) (w : World) (hf : NmFit (k, o, f, n, s)) (hT : Tb w) :
    Calls Tryd.prog 86 #[ev k o f n s] w fun e w' => e = .returned (.int .i64 (UM.errE (k, o, f, n, s))) ∧ Below w.heap.size w w' := by
  obtain ⟨R, hR⟩ : ∃ R, R = UM.errE (k, o, f, n, s) := ⟨_, rfl⟩
  rw [← hR]
  unfold UM.errE at hR
  have HR := Lib.hid hR
  clear hR
  have hb := below_fresh w (.cells #[.int .i64 k, .string o, .string f, .int .i64 n, .string s] 62)
  have hx := OE.fresh w (.int .i64 k) (.string o) (.string f) (.int .i64 n) (.string s)
  obtain ⟨w1, hw1⟩ : ∃ z, w.alloc (.cells #[.int .i64 k, .string o, .string f, .int .i64 n, .string s] 62) = z := ⟨_, rfl⟩
  rw [hw1] at hx hb
  have HW := Lib.hid hw1
  have HB := Lib.hid hb
  have HX := Lib.hid hx
  have CO : Hid (∀ p : Later w1, Calls Tryd.prog 111 #[.string o] p.val fun e w'' => e = .returned (.int .i64 (UM.ns o : Nat)) ∧ ∃ q : Later w1, w'' = q.val) := fun p => Calls.later (cNameSize o p.val hf.1 ((hT.below hb).below p.h))
  have CF : Hid (∀ p : Later w1, Calls Tryd.prog 111 #[.string f] p.val fun e w'' => e = .returned (.int .i64 (UM.ns f : Nat)) ∧ ∃ q : Later w1, w'' = q.val) := fun p => Calls.later (cNameSize f p.val hf.2 ((hT.below hb).below p.h))
  have e1 : ∀ p : Later w1, p.val.cell? ⟨w.heap.size, 1, none⟩ = some (.string o) := fun p => (HX.out.below p.h).cells.2.1
  have e2 : ∀ p : Later w1, p.val.cell? ⟨w.heap.size, 2, none⟩ = some (.string f) := fun p => (HX.out.below p.h).cells.2.2.1
  have HO := Lib.hid (UM.ns_ok o)
  have HF := Lib.hid (UM.ns_ok f)
  have HOL := Lib.hid (UM.ns_le o)
  have HFL := Lib.hid (UM.ns_le f)
  have HFI := Lib.hid (fun w' => cFitsN k n w')
  have HTA := Lib.hid (fun w' => cTakes k w')
  have HFD := Lib.hid (UM.fits_iff k n)
  have HTD := Lib.hid (UM.takes_iff k)
  clear hw1 hb hx hf hT
  generalize UM.ns o = NO at CO HO HOL
  generalize UM.ns f = NF at CF HF HFL
  generalize UM.fits k n = B at HFI HFD
  generalize UM.takes k = C at HTA HTD
  go_enter Tryd.func86, Tryd.ntmps86
  go_upto_region 1 with fail
  rw [HW.out]
  clear HW
  refine wp_region_later (by kernel_rfl) (by kernel_rfl) ?_
  repeat (go_big_quiet_step (first | (go_at_call 111; first | with_reducible exact CO.out _ | with_reducible exact CF.out _)))
  refine wpQuiet_nil ?_
  rintro _ ⟨p, rfl⟩
  have HX2 := Lib.hid (HX.out.below p.h)
  have HB2 := Lib.hid (bnext HB.out p.h)
  clear e1 e2 CO CF HX HB
  obtain ⟨w2, hw2⟩ : ∃ z, p.val = z := ⟨_, rfl⟩
  rw [hw2] at HX2 HB2 ⊢
  clear hw2
  obtain ⟨c0, c1, c2, c3, c4, _⟩ := HX2.out.cells
  have es := isEmpty_size s
  cases B <;> cases C
  all_goals
    go_wp2_with (first | (go_at_call 112; refine (HFI.out _).mono ?_; rintro e w4 ⟨rfl, rfl⟩) | (go_at_call 113; refine (HTA.out _).mono ?_; rintro e w4 ⟨rfl, rfl⟩))
  all_goals
    go_ret
    refine ⟨ret_int ?_, HB2.out⟩
    have hr := HR.out
    have ho := HO.out
    have hf := HF.out
    have hol := HOL.out
    have hfl := HFL.out
    have hbd := HFD.out
    have htd := HTD.out
    rw [hr]
    clear es c0 c1 c2 c3 c4 HR HB2 HO HF HOL HFL HTD HX2 HFI HTA HFD
    (try simp only [← ByteArray.size_eq_zero_iff] at *)
    (try simp only [ByteArray.size_empty] at *)
    (try simp only [Bool.false_eq_true, true_iff, false_iff, bne_iff_ne, bne_eq_false_iff_eq, ne_eq, Bool.not_eq_true', Bool.not_eq_false', decide_eq_true_eq, decide_eq_false_iff_not, beq_iff_eq, beq_eq_false_iff_ne] at *)
    (repeat' split) <;> first | rfl | omega

/-! ### Which effects commute -/
set_option maxRecDepth 100000 in
theorem cComm1 (k : Int) (o f : ByteArray) (n : Int) (s : ByteArray) (w : World) :
    Calls Tryd.prog 115 #[ev k o f n s] w fun e w' => e = .returned (.bool (k == 1)) ∧ Below w.heap.size w w' := by
  have hb := below_fresh w (.cells #[.int .i64 k, .string o, .string f, .int .i64 n, .string s] 62)
  obtain ⟨c0, _⟩ := (OE.fresh w (.int .i64 k) (.string o) (.string f) (.int .i64 n) (.string s)).cells
  go_enter Tryd.func115, Tryd.ntmps115
  go_wp2
  go_ret
  exact ⟨rfl, hb⟩

set_option maxRecDepth 100000 in
set_option maxHeartbeats 1000000 in
theorem uIndexFunc (v : Value) (xs : List Ef) (w : World) (h : RdEf w v xs) :
    Calls Tryd.prog 129 #[v, .func (.func 115) #[] #[]] w fun e w' => ∃ r : Int, e = .returned (.int .i64 r) ∧ decide (0 ≤ r) = xs.any (fun y => y.1 == 1) ∧ Below w.heap.size w w' := by
  have eF := enters_of Tryd.func115 (by kernel_rfl) rfl
  obtain ⟨ad, c, rfl, hc, hl⟩ := h.shape
  obtain ⟨R, hR⟩ : ∃ R, R = xs.any (fun y => y.1 == 1) := ⟨_, rfl⟩
  rw [← hR]
  have HR := Lib.hid hR
  have HX := Lib.hid h
  clear hR h
  go_enter Tryd.func129, Tryd.ntmps129
  go_wp2
  go_loopw [8] (fun i wr => ∃ j : Nat, j ≤ xs.length ∧ i = .int .i64 j ∧ Below w.heap.size w wr ∧ Hid (R = (xs.drop j).any (fun y => y.1 == 1))) (fun i _ => xs.length - (intOf i).toNat)
  case atStart => exact ⟨0, Nat.zero_le _, rfl, Below.refl _ _, HR.out⟩
  case round =>
    obtain ⟨j, hk, rfl, hbl, he⟩ := hrel
    by_cases hlt : j < xs.length
    · have hq : (j : Int) < (xs.length : Int) := by omega
      have hdx := Lib.hid (drop_get hlt)
      have hat := List.getElem?_eq_getElem hlt
      generalize xs[j] = y at hdx hat
      obtain ⟨k', o', f', n', s'⟩ := y
      obtain ⟨b, o, hi, hb, d0, d1, d2, d3, d4⟩ := atEf (HX.out.below hbl) j _ _ _ _ _ hat
      have hS := Lib.hid (cComm1 k' o' f' n' s' wr)
      have e2 := Lib.hid (show R = ((k' == 1) || (xs.drop (j + 1)).any (fun y => y.1 == 1)) by rw [he.out, hdx.out]; rfl)
      clear he hdx hat
      generalize (k' == 1) = B at hS e2
      cases B
      · have e3 := Lib.hid (show R = (xs.drop (j + 1)).any (fun y => y.1 == 1) by rw [e2.out, Bool.false_or])
        clear e2
        go_wp2_with (go_at_call 115; refine hS.out.mono ?_; rintro e w4 ⟨rfl, h4⟩)
        go_roundw
        case rel => exact ⟨j + 1, by omega, by go_num, bnext hbl h4, e3⟩
        case measure => simp [intOf]; omega
      · have e3 := Lib.hid (show R = true by rw [e2.out, Bool.true_or])
        clear e2
        go_wp2_with (go_at_call 115; refine hS.out.mono ?_; rintro e w4 ⟨rfl, h4⟩)
        go_ret
        exact ⟨_, rfl, by rw [e3.out]; exact decide_eq_true (by omega), bnext hbl h4⟩
    · have hq : ¬ ((j : Int) < (xs.length : Int)) := by omega
      have e2 := Lib.hid (show R = false by rw [he.out, List.drop_of_length_le (by omega)]; rfl)
      clear he HR
      go_wp2
      go_ret
      exact ⟨_, rfl, by rw [e2.out]; rfl, hbl⟩

set_option maxRecDepth 100000 in
set_option maxHeartbeats 1000000 in
theorem uContainsFunc (v : Value) (xs : List Ef) (w : World) (h : RdEf w v xs) :
    Calls Tryd.prog 114 #[v, .func (.func 115) #[] #[]] w fun e w' => e = .returned (.bool (xs.any (fun y => y.1 == 1))) ∧ Below w.heap.size w w' := by
  have HI := Lib.hid (uIndexFunc v xs w h)
  generalize xs.any (fun y => y.1 == 1) = R at HI
  clear h
  go_enter Tryd.func114, Tryd.ntmps114
  go_wp2_with fail
  refine HI.out.mono ?_
  rintro e w1 ⟨r, rfl, hr, hb⟩
  clear HI
  go_wp2
  go_ret
  exact ⟨rfl, hb⟩

theorem com_any (es : List Ef) : (!es.any (fun y => y.1 == 1)) = UM.com es := by
  unfold UM.com
  rw [List.any_eq_not_all_not, Bool.not_not]
  congr 1
  funext e
  by_cases h : e.1 = 1 <;> simp [h]

set_option maxRecDepth 100000 in
set_option maxHeartbeats 1000000 in
theorem cCommutes (c q t : Int) (v : Value) (es : List Ef) (w : World) (h : RdEf w v es) :
    Calls Tryd.prog 87 #[uv c q t v] w fun e w' => e = .returned (.bool (UM.com es)) ∧ Below w.heap.size w w' := by
  have hb := below_fresh w (.cells #[.int .i64 c, .int .i64 q, .int .i64 t, v] 43)
  have hx := OU.fresh w c q t v
  obtain ⟨w1, hw1⟩ : ∃ z, w.alloc (.cells #[.int .i64 c, .int .i64 q, .int .i64 t, v] 43) = z := ⟨_, rfl⟩
  rw [hw1] at hb hx
  have HW := Lib.hid hw1
  have HB := Lib.hid hb
  have HC := Lib.hid (uContainsFunc v es w1 (h.below hb))
  have HE := Lib.hid (com_any es)
  obtain ⟨a, k, rfl, hk, _⟩ := h.shape
  obtain ⟨c0, c1, c2, c3, _⟩ := hx.cells
  clear hw1 hb hx h
  generalize UM.com es = R at HE
  generalize es.any (fun y => y.1 == 1) = A at HC HE
  go_enter Tryd.func87, Tryd.ntmps87
  go_upto_region 1 with fail
  rw [HW.out]
  go_wp2_with fail
  refine HC.out.mono ?_
  rintro e w2 ⟨rfl, hb2⟩
  go_wp2
  go_ret
  exact ⟨ret_bool HE.out, bnext HB.out hb2⟩

end Go.Proofs.YtdfablboenfblaaDoor

namespace Go.Proofs.YtdfablboenfblaaDoor
open Go.RowKit
open UM (Ef)

set_option maxRecDepth 100000 in
set_option maxHeartbeats 4000000 in
theorem cVal (c q t : Int) (v : Value) (es : List Ef) (w : World) (hT : Tb w) (h : RdEf w v es) (hfe : ∀ e ∈ es, NmFit e) :
    Calls Tryd.prog 61 #[uv c q t v] w fun e w' => e = .returned (.int .i64 (UM.errU c q t es)) ∧ Below w.heap.size w w' := by
  obtain ⟨ad, cp, rfl, hcp, _⟩ := h.shape
  obtain ⟨R, hR⟩ : ∃ R, R = UM.errU c q t es := ⟨_, rfl⟩
  rw [← hR]
  unfold UM.errU at hR
  have HX := Lib.hid h
  have HCL := Lib.hid (fun wx => cIsClient c wx)
  have HCO := Lib.hid (fun wx (hb : Below w.heap.size w wx) => cCommutes c q t _ es wx (h.below hb))
  obtain ⟨C, hC⟩ : ∃ C, C = UM.isCl c := ⟨_, rfl⟩
  rw [← hC] at hR HCL
  obtain ⟨M, hM⟩ : ∃ M, M = UM.com es := ⟨_, rfl⟩
  rw [← hM] at hR HCO
  have hx := heap_alloc_new w (.cells #[.int .i64 c, .int .i64 q, .int .i64 t, .slice ad es.length cp] 43)
  have hb := below_fresh w (.cells #[.int .i64 c, .int .i64 q, .int .i64 t, .slice ad es.length cp] 43)
  obtain ⟨w1, hw1⟩ : ∃ z, w.alloc (.cells #[.int .i64 c, .int .i64 q, .int .i64 t, .slice ad es.length cp] 43) = z := ⟨_, rfl⟩
  rw [hw1] at hx hb
  have HW := Lib.hid hw1
  have HB := Lib.hid hb
  have HU := Lib.hid hx
  have hlen : es.length ≤ 9223372036854775807 := by omega
  have HT := Lib.hid hT
  have HFE := Lib.hid hfe
  clear hw1 hb hx hC hM h hT hfe
  go_enter Tryd.func61, Tryd.ntmps61
  go_upto_region 1 with fail
  rw [HW.out]
  clear HW
  obtain ⟨c0, c1, c2, c3⟩ := ubox HU.out
  by_cases hr : C = false ∨ q < 1 ∨ 8 < q ∨ t < 0 ∨ 1000 < t
  · have HR1 := Lib.hid (hR.trans (if_pos hr))
    clear hR HCO HX HU
    cases C with
    | false =>
      clear hr
      go_wp2_with fail
      refine (HCL.out w1).mono ?_
      rintro e w2 ⟨rfl, rfl⟩
      go_wp2
      go_ret
      exact ⟨by rw [HR1.out]; rfl, HB.out⟩
    | true =>
      have hr2 : q < 1 ∨ 8 < q ∨ t < 0 ∨ 1000 < t := by
        rcases hr with h | h
        · cases h
        · exact h
      clear hr
      go_wp2_with fail
      refine (HCL.out w1).mono ?_
      rintro e w2 ⟨rfl, rfl⟩
      clear HCL
      by_cases g1 : q < 1
      · go_wp2
        go_ret
        exact ⟨by rw [HR1.out]; rfl, HB.out⟩
      by_cases g2 : 8 < q
      · go_wp2
        go_ret
        exact ⟨by rw [HR1.out]; rfl, HB.out⟩
      by_cases g3 : t < 0
      · go_wp2
        go_ret
        exact ⟨by rw [HR1.out]; rfl, HB.out⟩
      have g4 : 1000 < t := by omega
      go_wp2
      go_ret
      exact ⟨by rw [HR1.out]; rfl, HB.out⟩
  rw [if_neg hr] at hR
  have hCt : C = true := by cases C with | true => rfl | false => exact absurd (Or.inl rfl) hr
  subst hCt
  have g1 : ¬ q < 1 := fun h => hr (by simp [h])
  have g2 : ¬ 8 < q := fun h => hr (by simp [h])
  have g3 : ¬ t < 0 := fun h => hr (by simp [h])
  have g4 : ¬ 1000 < t := fun h => hr (by simp [h])
  clear hr
  have HR := Lib.hid hR
  clear hR
  go_wp2_with fail
  refine (HCL.out w1).mono ?_
  rintro e w2 ⟨rfl, rfl⟩
  clear HCL
  have HB0 := HB
  by_cases h0 : es = []
  · have HR1 := Lib.hid (HR.out.trans (if_pos h0))
    have hz : ((es.length : Int) == 0) = true := by rw [h0]; rfl
    clear HR HX HU HCO h0
    go_wp2
    go_ret
    exact ⟨by rw [HR1.out]; rfl, HB.out⟩
  have hR := HR.out
  rw [if_neg h0] at hR
  have hz : ((es.length : Int) == 0) = false := beq_f (by have := List.length_pos_iff.2 h0; omega)
  clear HR
  by_cases h4 : 4 < es.length
  · have HR1 := Lib.hid (hR.trans (if_pos h4))
    have h4' : (4 : Int) < (es.length : Int) := by omega
    clear hR HX HU HCO h0 h4
    go_wp2
    go_ret
    exact ⟨by rw [HR1.out]; rfl, HB.out⟩
  rw [if_neg h4] at hR
  have h4' : ¬ (4 : Int) < (es.length : Int) := by omega
  have HR := Lib.hid hR
  clear hR h0
  go_wp2
  clear hz h4' c0 c1 c2 c3 g1 g2 g3 g4
  go_loopw [45] (fun i wr => ∃ k : Nat, k ≤ es.length ∧ i = .int .i64 k ∧ Hid (UM.errL es = UM.errL (es.drop k)) ∧ Hid (Below w2.heap.size w2 wr)) (fun i _ => es.length - (intOf i).toNat)
  case atStart => exact ⟨0, Nat.zero_le _, rfl, Lib.hid rfl, Lib.hid (Below.refl _ _)⟩
  case round =>
    obtain ⟨k, hk, rfl, hc, hbw⟩ := hrel
    obtain ⟨c0, c1, c2, c3⟩ := ubox (below_block HU.out hbw.out)
    have HBW := Lib.hid (bnext HB.out hbw.out)
    by_cases hlt : k < es.length
    · have hq : (k : Int) < (es.length : Int) := by omega
      have hat := List.getElem?_eq_getElem hlt
      have hdx := drop_get hlt
      generalize es[k] = e at hat hdx
      have HDX := Lib.hid (show UM.errL es = if UM.errE e ≠ 0 then UM.errE e else UM.errL (es.drop (k + 1)) by rw [hc.out, hdx]; rfl)
      obtain ⟨k', o', f', n', s'⟩ := e
      obtain ⟨b, p, hi, hbb, d0, d1, d2, d3, d4⟩ := atEf (HX.out.below HBW.out) k _ _ _ _ _ hat
      have hfit := HFE.out _ (List.mem_of_getElem? hat)
      have bx := below_fresh wr (.cells #[.int .i64 k', .string o', .string f', .int .i64 n', .string s'] 62)
      have HBX := Lib.hid bx
      have HV := Lib.hid (cValEff k' o' f' n' s' (wr.alloc (.cells #[.int .i64 k', .string o', .string f', .int .i64 n', .string s'] 62)) hfit ((HT.out.below HBW.out).below bx))
      obtain ⟨y0, y1, y2, y3, y4, _⟩ := (OE.fresh wr (.int .i64 k') (.string o') (.string f') (.int .i64 n') (.string s')).cells
      generalize UM.errE (k', o', f', n', s') = ec at HV HDX
      clear hat hdx hc hfit bx
      by_cases hec0 : ec = 0
      · subst hec0
        have HD2 := Lib.hid (HDX.out.trans (if_neg (fun h => h rfl)))
        clear HDX
        go_wp2_with fail
        refine HV.out.mono ?_
        rintro e w3 ⟨rfl, hb1⟩
        have HB1 := Lib.hid (bnext (bnext hbw.out HBX.out) hb1)
        clear hb1 HV d0 d1 d2 d3 d4 hi hbb hbw c0 c1 c2 c3 y0 y1 y2 y3 y4 HBX
        go_wp2
        go_roundw
        case rel => exact ⟨k + 1, by omega, by go_num, HD2, HB1⟩
        case measure => simp [intOf]; omega
      · have HD2 := Lib.hid (HDX.out.trans (if_pos hec0))
        have HR1 := Lib.hid (show R = ec by rw [HR.out, if_pos (by rw [HD2.out]; exact hec0), HD2.out])
        have hne : (ec != 0) = true := bne_t hec0
        clear HDX HD2 hec0 HR HCO
        go_wp2_with fail
        refine HV.out.mono ?_
        rintro e w3 ⟨rfl, hb1⟩
        have HB1 := Lib.hid (bnext (bnext HBW.out HBX.out) hb1)
        clear hb1 HV d0 d1 d2 d3 d4 hi hbb hbw c0 c1 c2 c3 HBW y0 y1 y2 y3 y4 HBX
        go_wp2
        go_ret
        exact ⟨by rw [HR1.out]; rfl, HB1.out⟩
    have hq : ¬ ((k : Int) < (es.length : Int)) := by omega
    have hR := HR.out
    rw [if_neg (by rw [hc.out, List.drop_of_length_le (by omega)]; simp [UM.errL])] at hR
    have HC1 := Lib.hid (HCO.out wr HBW.out)
    have HC2 := Lib.hid (fun wx (hb : Below wr.heap.size wr wx) => HCO.out wx (bnext HBW.out hb))
    have HUW := Lib.hid (fun wx (hb : Below wr.heap.size wr wx) => ubox (below_block (below_block HU.out hbw.out) hb))
    clear HR HCO HU HX hc hbw
    obtain ⟨c0, c1, c2, c3⟩ := HUW.out wr (Below.refl _ _)
    cases M with
    | false =>
      by_cases h1 : 1 < es.length
      · have HR1 := Lib.hid (hR.trans (if_pos (Or.inl ⟨rfl, h1⟩)))
        have h1' : (1 : Int) < (es.length : Int) := by omega
        clear hR HC2 h1
        go_wp2_with fail
        refine HC1.out.mono ?_
        rintro e w3 ⟨rfl, hb1⟩
        have HB1 := Lib.hid (bnext HBW.out hb1)
        obtain ⟨d0, d1, d2, d3⟩ := HUW.out w3 hb1
        clear hb1 c0 c1 c2 c3 HC1 HUW
        go_wp2
        go_ret
        exact ⟨by rw [HR1.out]; rfl, HB1.out⟩
      · have HR1 := Lib.hid (hR.trans (if_neg (by rintro (⟨_, h⟩ | ⟨h, _⟩); exact h1 h; cases h)))
        have h1' : ¬ (1 : Int) < (es.length : Int) := by omega
        clear hR HC2 h1
        go_wp2_with fail
        refine HC1.out.mono ?_
        rintro e w3 ⟨rfl, hb1⟩
        have HB1 := Lib.hid (bnext HBW.out hb1)
        obtain ⟨d0, d1, d2, d3⟩ := HUW.out w3 hb1
        clear hb1 c0 c1 c2 c3 HC1 HUW
        go_wp2
        go_ret
        exact ⟨by rw [HR1.out]; rfl, HB1.out⟩
    | true =>
      by_cases h1 : t = 0
      · have HR1 := Lib.hid (hR.trans (if_neg (by rintro (⟨h, _⟩ | ⟨_, h⟩); cases h; exact h h1)))
        have h1' : (t != 0) = false := by simp [h1]
        clear hR HC2 h1
        go_wp2_with fail
        refine HC1.out.mono ?_
        rintro e w3 ⟨rfl, hb1⟩
        have HB1 := Lib.hid (bnext HBW.out hb1)
        obtain ⟨d0, d1, d2, d3⟩ := HUW.out w3 hb1
        clear hb1 c0 c1 c2 c3 HC1 HUW
        go_wp2
        go_ret
        exact ⟨by rw [HR1.out]; rfl, HB1.out⟩
      · have HR1 := Lib.hid (hR.trans (if_pos (Or.inr ⟨rfl, h1⟩)))
        have h1' : (t != 0) = true := bne_t h1
        clear hR HC2 h1
        go_wp2_with fail
        refine HC1.out.mono ?_
        rintro e w3 ⟨rfl, hb1⟩
        have HB1 := Lib.hid (bnext HBW.out hb1)
        obtain ⟨d0, d1, d2, d3⟩ := HUW.out w3 hb1
        clear hb1 c0 c1 c2 c3 HC1 HUW
        go_wp2
        go_ret
        exact ⟨by rw [HR1.out]; rfl, HB1.out⟩

end Go.Proofs.YtdfablboenfblaaDoor
