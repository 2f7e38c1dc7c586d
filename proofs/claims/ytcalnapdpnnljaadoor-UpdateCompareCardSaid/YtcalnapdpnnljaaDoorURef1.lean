/-
  The calls of the reference's Commutes, Client, ValidateUpdate, CompareUpdate, Before: what the plain mathematics says. Conditions: the effects read.
-/
import Derived.Test.YtcalnapdpnnljaaDoorUMath
namespace Go.Proofs.YtcalnapdpnnljaaDoor
open Go.RowKit
open UM (Ef)

theorem com_take {es : List Ef} {k : Nat} {e : Ef} (h : es[k]? = some e) : UM.com (es.take (k + 1)) = (UM.com (es.take k) && decide (e.1 ≠ 1)) := by
  unfold UM.com
  rw [List.take_add_one, h, List.all_append]
  simp
theorem com_false {es : List Ef} {k : Nat} {e : Ef} (h : es[k]? = some e) (h1 : e.1 = 1) : UM.com es = false := by
  unfold UM.com
  rw [List.all_eq_false]
  exact ⟨e, List.mem_of_getElem? h, by simp [h1]⟩

set_option maxRecDepth 100000 in
set_option maxHeartbeats 2000000 in
theorem rCom (c q t : Int) (v : Value) (es : List Ef) (w : World) (h : RdEf w v es) :
    Calls Tryd.prog 17 #[uv c q t v] w fun e w' => e = .returned (.bool (UM.com es)) ∧ Below w.heap.size w w' := by
  obtain ⟨ad, cp, rfl, hcp, _⟩ := h.shape
  obtain ⟨R, hR⟩ : ∃ R, R = UM.com es := ⟨_, rfl⟩
  rw [← hR]
  have HR := Lib.hid hR
  have HX := Lib.hid h
  clear hR h
  have hx := heap_alloc_new w (.cells #[.int .i64 c, .int .i64 q, .int .i64 t, .slice ad es.length cp] 30)
  have hb := below_fresh w (.cells #[.int .i64 c, .int .i64 q, .int .i64 t, .slice ad es.length cp] 30)
  obtain ⟨w1, hw1⟩ : ∃ z, w.alloc (.cells #[.int .i64 c, .int .i64 q, .int .i64 t, .slice ad es.length cp] 30) = z := ⟨_, rfl⟩
  rw [hw1] at hx hb
  have HW := Lib.hid hw1
  have HB := Lib.hid hb
  have HU := Lib.hid (ubox hx)
  have hlen : es.length ≤ 9223372036854775807 := by omega
  clear hw1 hb hx
  go_enter Tryd.func17, Tryd.ntmps17
  go_upto_region 1 with fail
  rw [HW.out]
  clear HW
  obtain ⟨_, _, _, c3⟩ := HU.out
  go_wp2
  go_loopw [3] (fun i wr => ∃ k : Nat, k ≤ es.length ∧ i = .int .i64 k ∧ Hid (UM.com (es.take k) = true) ∧ wr = w1) (fun i _ => es.length - (intOf i).toNat)
  case atStart => exact ⟨0, Nat.zero_le _, rfl, Lib.hid rfl, rfl⟩
  case round =>
    obtain ⟨k, hk, rfl, hc, rfl⟩ := hrel
    by_cases hlt : k < es.length
    · have hq : (k : Int) < (es.length : Int) := by omega
      have hat := List.getElem?_eq_getElem hlt
      generalize es[k] = e at hat
      obtain ⟨k', o', f', n', s'⟩ := e
      obtain ⟨b, p, hi, hbb, d0, _⟩ := atEf (HX.out.below HB.out) k _ _ _ _ _ hat
      by_cases h1 : k' = 1
      · have hk1 : (k' == 1) = true := by simp [h1]
        have HR1 := Lib.hid (HR.out.trans (com_false hat h1))
        clear hat h1
        go_wp2
        go_ret
        exact ⟨by rw [HR1.out]; rfl, HB.out⟩
      · have hk1 : (k' == 1) = false := by simp [h1]
        have HC := Lib.hid (show UM.com (es.take (k + 1)) = true by rw [com_take hat, hc.out]; simp [h1])
        clear hat h1
        go_wp2
        go_roundw
        case rel => exact ⟨k + 1, by omega, by go_num, HC, by first | rfl | trivial⟩
        case measure => simp [intOf]; omega
    · have hq : ¬ ((k : Int) < (es.length : Int)) := by omega
      have HR1 := Lib.hid (show R = true by rw [HR.out]; have := hc.out; rwa [List.take_of_length_le (by omega)] at this)
      go_wp2
      go_ret
      exact ⟨by rw [HR1.out]; rfl, HB.out⟩

set_option maxRecDepth 100000 in
set_option maxHeartbeats 1000000 in
theorem rClient (c : Int) (w : World) : Calls Tryd.prog 33 #[.int .i64 c] w fun e w' => e = .returned (.bool (UM.isCl c)) ∧ w' = w := by
  obtain ⟨R, hR⟩ : ∃ R, R = UM.isCl c := ⟨_, rfl⟩
  rw [← hR]
  unfold UM.isCl at hR
  have HR := Lib.hid hR
  clear hR
  go_enter Tryd.func33, Tryd.ntmps33
  go_wp2
  all_goals
    go_ret
    refine ⟨ret_bool ?_, rfl⟩
    rw [HR.out]
    rw [Bool.eq_iff_iff]
    simp
    try omega

set_option maxRecDepth 100000 in
set_option maxHeartbeats 4000000 in
theorem rCmpU (c q t : Int) (u : Value) (d r y : Int) (v : Value) (w : World) (hu : ∃ a l k, u = .slice a l k) (hv : ∃ a l k, v = .slice a l k) :
    Calls Tryd.prog 19 #[uv c q t u, uv d r y v] w fun e w' => e = .returned (.int .i64 (UM.cmpU c q d r)) ∧ Below w.heap.size w w' := by
  obtain ⟨a1, l1, k1, rfl⟩ := hu
  obtain ⟨a2, l2, k2, rfl⟩ := hv
  obtain ⟨R, hR⟩ : ∃ R, R = UM.cmpU c q d r := ⟨_, rfl⟩
  rw [← hR]
  unfold UM.cmpU at hR
  have HR := Lib.hid hR
  clear hR
  have hx := heap_alloc_new w (.cells #[.int .i64 c, .int .i64 q, .int .i64 t, .slice a1 l1 k1] 30)
  have hb := below_fresh w (.cells #[.int .i64 c, .int .i64 q, .int .i64 t, .slice a1 l1 k1] 30)
  have hy := heap_alloc_new (w.alloc (.cells #[.int .i64 c, .int .i64 q, .int .i64 t, .slice a1 l1 k1] 30)) (.cells #[.int .i64 d, .int .i64 r, .int .i64 y, .slice a2 l2 k2] 30)
  have hb2 := below_fresh (w.alloc (.cells #[.int .i64 c, .int .i64 q, .int .i64 t, .slice a1 l1 k1] 30)) (.cells #[.int .i64 d, .int .i64 r, .int .i64 y, .slice a2 l2 k2] 30)
  rw [World.size_alloc] at hy
  obtain ⟨w1, hw1⟩ : ∃ z, (w.alloc (.cells #[.int .i64 c, .int .i64 q, .int .i64 t, .slice a1 l1 k1] 30)).alloc (.cells #[.int .i64 d, .int .i64 r, .int .i64 y, .slice a2 l2 k2] 30) = z := ⟨_, rfl⟩
  rw [hw1] at hy hb2
  have HW := Lib.hid hw1
  have HB := Lib.hid (bnext hb hb2)
  obtain ⟨c0, c1, c2, c3⟩ := ubox (below_block hx hb2)
  obtain ⟨d0, d1, d2, d3⟩ := ubox hy
  clear hw1 hb hb2 hx hy
  go_enter Tryd.func19, Tryd.ntmps19
  go_upto_region 1 with fail
  rw [HW.out]
  clear HW
  go_wp2
  all_goals
    go_ret
    refine ⟨ret_int ?_, HB.out⟩
    have hr := HR.out
    rw [hr]
    clear c0 c1 c2 c3 d0 d1 d2 d3 HR HB
    (try simp only [beq_iff_eq, beq_eq_false_iff_ne, ne_eq] at *)
    (repeat' split) <;> first | rfl | omega

set_option maxRecDepth 100000 in
set_option maxHeartbeats 4000000 in
theorem rBef (c q t : Int) (u : Value) (d r y : Int) (v : Value) (w : World) (hu : ∃ a l k, u = .slice a l k) (hv : ∃ a l k, v = .slice a l k) :
    Calls Tryd.prog 21 #[uv c q t u, uv d r y v] w fun e w' => e = .returned (.bool (UM.bef c q t d r y)) ∧ Below w.heap.size w w' := by
  obtain ⟨R, hR⟩ : ∃ R, R = UM.bef c q t d r y := ⟨_, rfl⟩
  rw [← hR]
  unfold UM.bef at hR
  have HC := Lib.hid (fun wx => rCmpU c q t u d r y v wx hu hv)
  generalize UM.cmpU c q d r = cm at *
  obtain ⟨a1, l1, k1, rfl⟩ := hu
  obtain ⟨a2, l2, k2, rfl⟩ := hv
  have HR := Lib.hid hR
  clear hR
  have hx := heap_alloc_new w (.cells #[.int .i64 c, .int .i64 q, .int .i64 t, .slice a1 l1 k1] 30)
  have hb := below_fresh w (.cells #[.int .i64 c, .int .i64 q, .int .i64 t, .slice a1 l1 k1] 30)
  have hy := heap_alloc_new (w.alloc (.cells #[.int .i64 c, .int .i64 q, .int .i64 t, .slice a1 l1 k1] 30)) (.cells #[.int .i64 d, .int .i64 r, .int .i64 y, .slice a2 l2 k2] 30)
  have hb2 := below_fresh (w.alloc (.cells #[.int .i64 c, .int .i64 q, .int .i64 t, .slice a1 l1 k1] 30)) (.cells #[.int .i64 d, .int .i64 r, .int .i64 y, .slice a2 l2 k2] 30)
  rw [World.size_alloc] at hy
  obtain ⟨w1, hw1⟩ : ∃ z, (w.alloc (.cells #[.int .i64 c, .int .i64 q, .int .i64 t, .slice a1 l1 k1] 30)).alloc (.cells #[.int .i64 d, .int .i64 r, .int .i64 y, .slice a2 l2 k2] 30) = z := ⟨_, rfl⟩
  rw [hw1] at hy hb2
  have HW := Lib.hid hw1
  have HB := Lib.hid (bnext hb hb2)
  obtain ⟨c0, c1, c2, c3⟩ := ubox (below_block hx hb2)
  obtain ⟨d0, d1, d2, d3⟩ := ubox hy
  clear hw1 hb hb2 hx hy
  go_enter Tryd.func21, Tryd.ntmps21
  go_upto_region 1 with fail
  rw [HW.out]
  clear HW
  by_cases h1 : t < y
  · have HR1 := Lib.hid (HR.out.trans (decide_eq_true (Or.inl h1)))
    clear HR HC
    go_wp2
    go_ret
    exact ⟨by rw [HR1.out]; rfl, HB.out⟩
  by_cases h2 : t = y
  · subst h2
    go_wp2_with fail
    refine (HC.out w1).mono ?_
    rintro e w2 ⟨rfl, hq⟩
    have HB2 := Lib.hid (bnext HB.out hq)
    have HR1 := Lib.hid (show R = decide (cm < 0) by rw [HR.out]; simp)
    clear HR HC hq c0 c1 c2 c3 d0 d1 d2 d3
    go_wp2
    go_ret
    exact ⟨by rw [HR1.out]; rfl, HB2.out⟩
  · have HR1 := Lib.hid (show R = false by rw [HR.out]; exact decide_eq_false (by omega))
    have h3 : (t == y) = false := beq_f h2
    clear HR HC h2
    go_wp2
    go_ret
    exact ⟨by rw [HR1.out]; rfl, HB.out⟩

set_option maxRecDepth 100000 in
set_option maxHeartbeats 4000000 in
theorem rValU (c q t : Int) (v : Value) (es : List Ef) (w : World) (h : RdEf w v es) :
    Calls Tryd.prog 15 #[uv c q t v] w fun e w' => e = .returned (.int .i64 (UM.errU c q t es)) ∧ Below w.heap.size w w' := by
  obtain ⟨ad, cp, rfl, hcp, _⟩ := h.shape
  obtain ⟨R, hR⟩ : ∃ R, R = UM.errU c q t es := ⟨_, rfl⟩
  rw [← hR]
  unfold UM.errU at hR
  have HX := Lib.hid h
  have HCL := Lib.hid (fun wx => rClient c wx)
  have HCO := Lib.hid (fun wx (hb : Below w.heap.size w wx) => rCom c q t _ es wx (h.below hb))
  obtain ⟨C, hC⟩ : ∃ C, C = UM.isCl c := ⟨_, rfl⟩
  rw [← hC] at hR HCL
  obtain ⟨M, hM⟩ : ∃ M, M = UM.com es := ⟨_, rfl⟩
  rw [← hM] at hR HCO
  have hx := heap_alloc_new w (.cells #[.int .i64 c, .int .i64 q, .int .i64 t, .slice ad es.length cp] 30)
  have hb := below_fresh w (.cells #[.int .i64 c, .int .i64 q, .int .i64 t, .slice ad es.length cp] 30)
  obtain ⟨w1, hw1⟩ : ∃ z, w.alloc (.cells #[.int .i64 c, .int .i64 q, .int .i64 t, .slice ad es.length cp] 30) = z := ⟨_, rfl⟩
  rw [hw1] at hx hb
  have HW := Lib.hid hw1
  have HB := Lib.hid hb
  have HU := Lib.hid hx
  have hlen : es.length ≤ 9223372036854775807 := by omega
  clear hw1 hb hx hC hM h
  go_enter Tryd.func15, Tryd.ntmps15
  go_upto_region 1 with fail
  rw [HW.out]
  clear HW
  obtain ⟨c0, c1, c2, c3⟩ := ubox HU.out
  by_cases hr : C = false ∨ q < 1 ∨ 8 < q ∨ t < 0 ∨ 1000 < t
  · have HR1 := Lib.hid (hR.trans (if_pos hr))
    clear hR HCO HX HU
    cases C with
    | false =>
      clear hr
      go_wp2_with fail
      refine (HCL.out w1).mono ?_
      rintro e w2 ⟨rfl, rfl⟩
      go_wp2
      go_ret
      exact ⟨by rw [HR1.out]; rfl, HB.out⟩
    | true =>
      have hr2 : q < 1 ∨ 8 < q ∨ t < 0 ∨ 1000 < t := by
        rcases hr with h | h
        · cases h
        · exact h
      clear hr
      go_wp2_with fail
      refine (HCL.out w1).mono ?_
      rintro e w2 ⟨rfl, rfl⟩
      clear HCL
      by_cases g1 : q < 1
      · go_wp2
        go_ret
        exact ⟨by rw [HR1.out]; rfl, HB.out⟩
      by_cases g2 : 8 < q
      · go_wp2
        go_ret
        exact ⟨by rw [HR1.out]; rfl, HB.out⟩
      by_cases g3 : t < 0
      · go_wp2
        go_ret
        exact ⟨by rw [HR1.out]; rfl, HB.out⟩
      have g4 : 1000 < t := by omega
      go_wp2
      go_ret
      exact ⟨by rw [HR1.out]; rfl, HB.out⟩
  rw [if_neg hr] at hR
  have hCt : C = true := by cases C with | true => rfl | false => exact absurd (Or.inl rfl) hr
  subst hCt
  have g1 : ¬ q < 1 := fun h => hr (by simp [h])
  have g2 : ¬ 8 < q := fun h => hr (by simp [h])
  have g3 : ¬ t < 0 := fun h => hr (by simp [h])
  have g4 : ¬ 1000 < t := fun h => hr (by simp [h])
  clear hr
  have HR := Lib.hid hR
  clear hR
  go_wp2_with fail
  refine (HCL.out w1).mono ?_
  rintro e w2 ⟨rfl, rfl⟩
  clear HCL
  have HB0 := HB
  by_cases h0 : es = []
  · have HR1 := Lib.hid (HR.out.trans (if_pos h0))
    have hz : ((es.length : Int) == 0) = true := by rw [h0]; rfl
    clear HR HX HU HCO h0
    go_wp2
    go_ret
    exact ⟨by rw [HR1.out]; rfl, HB.out⟩
  have hR := HR.out
  rw [if_neg h0] at hR
  have hz : ((es.length : Int) == 0) = false := beq_f (by have := List.length_pos_iff.2 h0; omega)
  clear HR
  by_cases h4 : 4 < es.length
  · have HR1 := Lib.hid (hR.trans (if_pos h4))
    have h4' : (4 : Int) < (es.length : Int) := by omega
    clear hR HX HU HCO h0 h4
    go_wp2
    go_ret
    exact ⟨by rw [HR1.out]; rfl, HB.out⟩
  rw [if_neg h4] at hR
  have h4' : ¬ (4 : Int) < (es.length : Int) := by omega
  have HR := Lib.hid hR
  clear hR h0
  go_wp2
  clear hz h4' c0 c1 c2 c3 g1 g2 g3 g4
  go_loopw [3] (fun i wr => ∃ k : Nat, k ≤ es.length ∧ i = .int .i64 k ∧ Hid (UM.errL es = UM.errL (es.drop k)) ∧ Hid (Below w2.heap.size w2 wr)) (fun i _ => es.length - (intOf i).toNat)
  case atStart => exact ⟨0, Nat.zero_le _, rfl, Lib.hid rfl, Lib.hid (Below.refl _ _)⟩
  case round =>
    obtain ⟨k, hk, rfl, hc, hbw⟩ := hrel
    obtain ⟨c0, c1, c2, c3⟩ := ubox (below_block HU.out hbw.out)
    have HBW := Lib.hid (bnext HB.out hbw.out)
    by_cases hlt : k < es.length
    · have hq : (k : Int) < (es.length : Int) := by omega
      have hat := List.getElem?_eq_getElem hlt
      have hdx := drop_get hlt
      generalize es[k] = e at hat hdx
      have HDX := Lib.hid (show UM.errL es = if UM.errE e ≠ 0 then UM.errE e else UM.errL (es.drop (k + 1)) by rw [hc.out, hdx]; rfl)
      obtain ⟨k', o', f', n', s'⟩ := e
      obtain ⟨b, p, hi, hbb, d0, d1, d2, d3, d4⟩ := atEf (HX.out.below HBW.out) k _ _ _ _ _ hat
      have HV := Lib.hid (rValEff k' o' f' n' s' wr)
      generalize UM.errE (k', o', f', n', s') = ec at HV HDX
      clear hat hdx hc
      by_cases hec0 : ec = 0
      · subst hec0
        have HD2 := Lib.hid (HDX.out.trans (if_neg (fun h => h rfl)))
        clear HDX
        go_wp2_with fail
        refine HV.out.mono ?_
        rintro e w3 ⟨rfl, hb1⟩
        have HB1 := Lib.hid (bnext hbw.out hb1)
        clear hb1 HV d0 d1 d2 d3 d4 hi hbb hbw c0 c1 c2 c3
        go_wp2
        go_roundw
        case rel => exact ⟨k + 1, by omega, by go_num, HD2, HB1⟩
        case measure => simp [intOf]; omega
      · have HD2 := Lib.hid (HDX.out.trans (if_pos hec0))
        have HR1 := Lib.hid (show R = ec by rw [HR.out, if_pos (by rw [HD2.out]; exact hec0), HD2.out])
        have hne : (ec != 0) = true := bne_t hec0
        clear HDX HD2 hec0 HR HCO
        go_wp2_with fail
        refine HV.out.mono ?_
        rintro e w3 ⟨rfl, hb1⟩
        have HB1 := Lib.hid (bnext HBW.out hb1)
        clear hb1 HV d0 d1 d2 d3 d4 hi hbb hbw c0 c1 c2 c3 HBW
        go_wp2
        go_ret
        exact ⟨by rw [HR1.out]; rfl, HB1.out⟩
    have hq : ¬ ((k : Int) < (es.length : Int)) := by omega
    have hR := HR.out
    rw [if_neg (by rw [hc.out, List.drop_of_length_le (by omega)]; simp [UM.errL])] at hR
    have HC1 := Lib.hid (HCO.out wr HBW.out)
    have HC2 := Lib.hid (fun wx (hb : Below wr.heap.size wr wx) => HCO.out wx (bnext HBW.out hb))
    have HUW := Lib.hid (fun wx (hb : Below wr.heap.size wr wx) => ubox (below_block (below_block HU.out hbw.out) hb))
    clear HR HCO HU HX hc hbw
    obtain ⟨c0, c1, c2, c3⟩ := HUW.out wr (Below.refl _ _)
    cases M with
    | false =>
      by_cases h1 : 1 < es.length
      · have HR1 := Lib.hid (hR.trans (if_pos (Or.inl ⟨rfl, h1⟩)))
        have h1' : (1 : Int) < (es.length : Int) := by omega
        clear hR HC2 HUW h1
        go_wp2_with fail
        refine HC1.out.mono ?_
        rintro e w3 ⟨rfl, hb1⟩
        have HB1 := Lib.hid (bnext HBW.out hb1)
        have d3 := below_cell hb1 c3
        clear hb1 c0 c1 c2 c3
        go_wp2
        go_ret
        exact ⟨by rw [HR1.out]; rfl, HB1.out⟩
      · have HR1 := Lib.hid (hR.trans (if_neg (by rintro (⟨_, h⟩ | ⟨h, _⟩); exact h1 h; cases h)))
        have h1' : ¬ (1 : Int) < (es.length : Int) := by omega
        clear hR h1
        go_wp2_with fail
        refine HC1.out.mono ?_
        rintro e w3 ⟨rfl, hb1⟩
        have HB1 := Lib.hid (bnext HBW.out hb1)
        have HC3 := Lib.hid (HC2.out w3 hb1)
        obtain ⟨d0, d1, d2, d3⟩ := HUW.out w3 hb1
        clear hb1 c0 c1 c2 c3 HC1 HC2 HUW
        go_wp2_with fail
        refine HC3.out.mono ?_
        rintro e w4 ⟨rfl, hb2⟩
        have HB2 := Lib.hid (bnext HB1.out hb2)
        clear hb2 d0 d1 d2 d3 HC3
        go_wp2
        go_ret
        exact ⟨by rw [HR1.out]; rfl, HB2.out⟩
    | true =>
      by_cases h1 : t = 0
      · have HR1 := Lib.hid (hR.trans (if_neg (by rintro (⟨h, _⟩ | ⟨_, h⟩); cases h; exact h h1)))
        have h1' : (t != 0) = false := by simp [h1]
        clear hR h1
        go_wp2_with fail
        refine HC1.out.mono ?_
        rintro e w3 ⟨rfl, hb1⟩
        have HB1 := Lib.hid (bnext HBW.out hb1)
        have HC3 := Lib.hid (HC2.out w3 hb1)
        have HUW2 := Lib.hid (fun wx (hb : Below w3.heap.size w3 wx) => HUW.out wx (bnext hb1 hb))
        obtain ⟨d0, d1, d2, d3⟩ := HUW.out w3 hb1
        clear hb1 c0 c1 c2 c3 HC1 HC2 HUW
        go_wp2_with fail
        refine HC3.out.mono ?_
        rintro e w4 ⟨rfl, hb2⟩
        have HB2 := Lib.hid (bnext HB1.out hb2)
        obtain ⟨e0, e1, e2, e3⟩ := HUW2.out w4 hb2
        clear hb2 d0 d1 d2 d3 HC3 HUW2
        go_wp2
        go_ret
        exact ⟨by rw [HR1.out]; rfl, HB2.out⟩
      · have HR1 := Lib.hid (hR.trans (if_pos (Or.inr ⟨rfl, h1⟩)))
        have h1' : (t != 0) = true := bne_t h1
        clear hR h1
        go_wp2_with fail
        refine HC1.out.mono ?_
        rintro e w3 ⟨rfl, hb1⟩
        have HB1 := Lib.hid (bnext HBW.out hb1)
        have HC3 := Lib.hid (HC2.out w3 hb1)
        have HUW2 := Lib.hid (fun wx (hb : Below w3.heap.size w3 wx) => HUW.out wx (bnext hb1 hb))
        obtain ⟨d0, d1, d2, d3⟩ := HUW.out w3 hb1
        clear hb1 c0 c1 c2 c3 HC1 HC2 HUW
        go_wp2_with fail
        refine HC3.out.mono ?_
        rintro e w4 ⟨rfl, hb2⟩
        have HB2 := Lib.hid (bnext HB1.out hb2)
        obtain ⟨e0, e1, e2, e3⟩ := HUW2.out w4 hb2
        clear hb2 d0 d1 d2 d3 HC3 HUW2
        go_wp2
        go_ret
        exact ⟨by rw [HR1.out]; rfl, HB2.out⟩

end Go.Proofs.YtcalnapdpnnljaaDoor
