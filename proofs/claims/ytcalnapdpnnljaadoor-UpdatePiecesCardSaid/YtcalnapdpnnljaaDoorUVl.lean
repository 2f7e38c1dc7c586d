/-
  The call of update.Validate: it returns the first error of P11.2. Conditions: the tables of unicode/utf8 are laid; the effects read and are such as can come in. (Written by mk_uvl.py.)
-/
import Derived.Test.YtcalnapdpnnljaaDoorUVal
import Derived.Test.YtcalnapdpnnljaaDoorURef1
namespace Go.Proofs.YtcalnapdpnnljaaDoor
open Go.RowKit
open UM (Ef)

set_option maxRecDepth 100000 in
set_option maxHeartbeats 4000000 in
theorem cVal (c q t : Int) (v : Value) (es : List Ef) (w : World) (hT : Tb w) (h : RdEf w v es) (hfe : ∀ e ∈ es, NmFit e) :
    Calls Tryd.prog 14 #[uv c q t v] w fun e w' => e = .returned (.int .i64 (UM.errU c q t es)) ∧ Below w.heap.size w w' := by
  obtain ⟨ad, cp, rfl, hcp, _⟩ := h.shape
  obtain ⟨R, hR⟩ : ∃ R, R = UM.errU c q t es := ⟨_, rfl⟩
  rw [← hR]
  unfold UM.errU at hR
  have HX := Lib.hid h
  have HCL := Lib.hid (fun wx => cIsClient c wx)
  have HCO := Lib.hid (fun wx (hb : Below w.heap.size w wx) => cCommutes c q t _ es wx (h.below hb))
  obtain ⟨C, hC⟩ : ∃ C, C = UM.isCl c := ⟨_, rfl⟩
  rw [← hC] at hR HCL
  obtain ⟨M, hM⟩ : ∃ M, M = UM.com es := ⟨_, rfl⟩
  rw [← hM] at hR HCO
  have hx := heap_alloc_new w (.cells #[.int .i64 c, .int .i64 q, .int .i64 t, .slice ad es.length cp] 30)
  have hb := below_fresh w (.cells #[.int .i64 c, .int .i64 q, .int .i64 t, .slice ad es.length cp] 30)
  obtain ⟨w1, hw1⟩ : ∃ z, w.alloc (.cells #[.int .i64 c, .int .i64 q, .int .i64 t, .slice ad es.length cp] 30) = z := ⟨_, rfl⟩
  rw [hw1] at hx hb
  have HW := Lib.hid hw1
  have HB := Lib.hid hb
  have HU := Lib.hid hx
  have hlen : es.length ≤ 9223372036854775807 := by omega
  have HT := Lib.hid hT
  have HFE := Lib.hid hfe
  clear hw1 hb hx hC hM h hT hfe
  go_enter Tryd.func14, Tryd.ntmps14
  go_upto_region 1 with fail
  rw [HW.out]
  clear HW
  obtain ⟨c0, c1, c2, c3⟩ := ubox HU.out
  by_cases hr : C = false ∨ q < 1 ∨ 8 < q ∨ t < 0 ∨ 1000 < t
  · have HR1 := Lib.hid (hR.trans (if_pos hr))
    clear hR HCO HX HU
    cases C with
    | false =>
      clear hr
      go_wp2_with fail
      refine (HCL.out w1).mono ?_
      rintro e w2 ⟨rfl, rfl⟩
      go_wp2
      go_ret
      exact ⟨by rw [HR1.out]; rfl, HB.out⟩
    | true =>
      have hr2 : q < 1 ∨ 8 < q ∨ t < 0 ∨ 1000 < t := by
        rcases hr with h | h
        · cases h
        · exact h
      clear hr
      go_wp2_with fail
      refine (HCL.out w1).mono ?_
      rintro e w2 ⟨rfl, rfl⟩
      clear HCL
      by_cases g1 : q < 1
      · go_wp2
        go_ret
        exact ⟨by rw [HR1.out]; rfl, HB.out⟩
      by_cases g2 : 8 < q
      · go_wp2
        go_ret
        exact ⟨by rw [HR1.out]; rfl, HB.out⟩
      by_cases g3 : t < 0
      · go_wp2
        go_ret
        exact ⟨by rw [HR1.out]; rfl, HB.out⟩
      have g4 : 1000 < t := by omega
      go_wp2
      go_ret
      exact ⟨by rw [HR1.out]; rfl, HB.out⟩
  rw [if_neg hr] at hR
  have hCt : C = true := by cases C with | true => rfl | false => exact absurd (Or.inl rfl) hr
  subst hCt
  have g1 : ¬ q < 1 := fun h => hr (by simp [h])
  have g2 : ¬ 8 < q := fun h => hr (by simp [h])
  have g3 : ¬ t < 0 := fun h => hr (by simp [h])
  have g4 : ¬ 1000 < t := fun h => hr (by simp [h])
  clear hr
  have HR := Lib.hid hR
  clear hR
  go_wp2_with fail
  refine (HCL.out w1).mono ?_
  rintro e w2 ⟨rfl, rfl⟩
  clear HCL
  have HB0 := HB
  by_cases h0 : es = []
  · have HR1 := Lib.hid (HR.out.trans (if_pos h0))
    have hz : ((es.length : Int) == 0) = true := by rw [h0]; rfl
    clear HR HX HU HCO h0
    go_wp2
    go_ret
    exact ⟨by rw [HR1.out]; rfl, HB.out⟩
  have hR := HR.out
  rw [if_neg h0] at hR
  have hz : ((es.length : Int) == 0) = false := beq_f (by have := List.length_pos_iff.2 h0; omega)
  clear HR
  by_cases h4 : 4 < es.length
  · have HR1 := Lib.hid (hR.trans (if_pos h4))
    have h4' : (4 : Int) < (es.length : Int) := by omega
    clear hR HX HU HCO h0 h4
    go_wp2
    go_ret
    exact ⟨by rw [HR1.out]; rfl, HB.out⟩
  rw [if_neg h4] at hR
  have h4' : ¬ (4 : Int) < (es.length : Int) := by omega
  have HR := Lib.hid hR
  clear hR h0
  go_wp2
  clear hz h4' c0 c1 c2 c3 g1 g2 g3 g4
  go_loopw [45] (fun i wr => ∃ k : Nat, k ≤ es.length ∧ i = .int .i64 k ∧ Hid (UM.errL es = UM.errL (es.drop k)) ∧ Hid (Below w2.heap.size w2 wr)) (fun i _ => es.length - (intOf i).toNat)
  case atStart => exact ⟨0, Nat.zero_le _, rfl, Lib.hid rfl, Lib.hid (Below.refl _ _)⟩
  case round =>
    obtain ⟨k, hk, rfl, hc, hbw⟩ := hrel
    obtain ⟨c0, c1, c2, c3⟩ := ubox (below_block HU.out hbw.out)
    have HBW := Lib.hid (bnext HB.out hbw.out)
    by_cases hlt : k < es.length
    · have hq : (k : Int) < (es.length : Int) := by omega
      have hat := List.getElem?_eq_getElem hlt
      have hdx := drop_get hlt
      generalize es[k] = e at hat hdx
      have HDX := Lib.hid (show UM.errL es = if UM.errE e ≠ 0 then UM.errE e else UM.errL (es.drop (k + 1)) by rw [hc.out, hdx]; rfl)
      obtain ⟨k', o', f', n', s'⟩ := e
      obtain ⟨b, p, hi, hbb, d0, d1, d2, d3, d4⟩ := atEf (HX.out.below HBW.out) k _ _ _ _ _ hat
      have hfit := HFE.out _ (List.mem_of_getElem? hat)
      have bx := below_fresh wr (.cells #[.int .i64 k', .string o', .string f', .int .i64 n', .string s'] 23)
      have HBX := Lib.hid bx
      have HV := Lib.hid (cValEff k' o' f' n' s' (wr.alloc (.cells #[.int .i64 k', .string o', .string f', .int .i64 n', .string s'] 23)) hfit ((HT.out.below HBW.out).below bx))
      obtain ⟨y0, y1, y2, y3, y4, _⟩ := (OE.fresh wr (.int .i64 k') (.string o') (.string f') (.int .i64 n') (.string s')).cells
      generalize UM.errE (k', o', f', n', s') = ec at HV HDX
      clear hat hdx hc hfit bx
      by_cases hec0 : ec = 0
      · subst hec0
        have HD2 := Lib.hid (HDX.out.trans (if_neg (fun h => h rfl)))
        clear HDX
        go_wp2_with fail
        refine HV.out.mono ?_
        rintro e w3 ⟨rfl, hb1⟩
        have HB1 := Lib.hid (bnext (bnext hbw.out HBX.out) hb1)
        clear hb1 HV d0 d1 d2 d3 d4 hi hbb hbw c0 c1 c2 c3 y0 y1 y2 y3 y4 HBX
        go_wp2
        go_roundw
        case rel => exact ⟨k + 1, by omega, by go_num, HD2, HB1⟩
        case measure => simp [intOf]; omega
      · have HD2 := Lib.hid (HDX.out.trans (if_pos hec0))
        have HR1 := Lib.hid (show R = ec by rw [HR.out, if_pos (by rw [HD2.out]; exact hec0), HD2.out])
        have hne : (ec != 0) = true := bne_t hec0
        clear HDX HD2 hec0 HR HCO
        go_wp2_with fail
        refine HV.out.mono ?_
        rintro e w3 ⟨rfl, hb1⟩
        have HB1 := Lib.hid (bnext (bnext HBW.out HBX.out) hb1)
        clear hb1 HV d0 d1 d2 d3 d4 hi hbb hbw c0 c1 c2 c3 HBW y0 y1 y2 y3 y4 HBX
        go_wp2
        go_ret
        exact ⟨by rw [HR1.out]; rfl, HB1.out⟩
    have hq : ¬ ((k : Int) < (es.length : Int)) := by omega
    have hR := HR.out
    rw [if_neg (by rw [hc.out, List.drop_of_length_le (by omega)]; simp [UM.errL])] at hR
    have HC1 := Lib.hid (HCO.out wr HBW.out)
    have HC2 := Lib.hid (fun wx (hb : Below wr.heap.size wr wx) => HCO.out wx (bnext HBW.out hb))
    have HUW := Lib.hid (fun wx (hb : Below wr.heap.size wr wx) => ubox (below_block (below_block HU.out hbw.out) hb))
    clear HR HCO HU HX hc hbw
    obtain ⟨c0, c1, c2, c3⟩ := HUW.out wr (Below.refl _ _)
    cases M with
    | false =>
      by_cases h1 : 1 < es.length
      · have HR1 := Lib.hid (hR.trans (if_pos (Or.inl ⟨rfl, h1⟩)))
        have h1' : (1 : Int) < (es.length : Int) := by omega
        clear hR HC2 h1
        go_wp2_with fail
        refine HC1.out.mono ?_
        rintro e w3 ⟨rfl, hb1⟩
        have HB1 := Lib.hid (bnext HBW.out hb1)
        obtain ⟨d0, d1, d2, d3⟩ := HUW.out w3 hb1
        clear hb1 c0 c1 c2 c3 HC1 HUW
        go_wp2
        go_ret
        exact ⟨by rw [HR1.out]; rfl, HB1.out⟩
      · have HR1 := Lib.hid (hR.trans (if_neg (by rintro (⟨_, h⟩ | ⟨h, _⟩); exact h1 h; cases h)))
        have h1' : ¬ (1 : Int) < (es.length : Int) := by omega
        clear hR HC2 h1
        go_wp2_with fail
        refine HC1.out.mono ?_
        rintro e w3 ⟨rfl, hb1⟩
        have HB1 := Lib.hid (bnext HBW.out hb1)
        obtain ⟨d0, d1, d2, d3⟩ := HUW.out w3 hb1
        clear hb1 c0 c1 c2 c3 HC1 HUW
        go_wp2
        go_ret
        exact ⟨by rw [HR1.out]; rfl, HB1.out⟩
    | true =>
      by_cases h1 : t = 0
      · have HR1 := Lib.hid (hR.trans (if_neg (by rintro (⟨h, _⟩ | ⟨_, h⟩); cases h; exact h h1)))
        have h1' : (t != 0) = false := by simp [h1]
        clear hR HC2 h1
        go_wp2_with fail
        refine HC1.out.mono ?_
        rintro e w3 ⟨rfl, hb1⟩
        have HB1 := Lib.hid (bnext HBW.out hb1)
        obtain ⟨d0, d1, d2, d3⟩ := HUW.out w3 hb1
        clear hb1 c0 c1 c2 c3 HC1 HUW
        go_wp2
        go_ret
        exact ⟨by rw [HR1.out]; rfl, HB1.out⟩
      · have HR1 := Lib.hid (hR.trans (if_pos (Or.inr ⟨rfl, h1⟩)))
        have h1' : (t != 0) = true := bne_t h1
        clear hR HC2 h1
        go_wp2_with fail
        refine HC1.out.mono ?_
        rintro e w3 ⟨rfl, hb1⟩
        have HB1 := Lib.hid (bnext HBW.out hb1)
        obtain ⟨d0, d1, d2, d3⟩ := HUW.out w3 hb1
        clear hb1 c0 c1 c2 c3 HC1 HUW
        go_wp2
        go_ret
        exact ⟨by rw [HR1.out]; rfl, HB1.out⟩

end Go.Proofs.YtcalnapdpnnljaaDoor
