/-
  The calls of ValidateView, the program's and the reference's: each returns the error that the plain mathematics says. No conditions beyond that the members read.
-/
import Derived.Test.YtbbgjckiooejhaaQVal
namespace Go.Proofs.Ytbbgjckiooejhaa
open Go.RowKit
open QM (Mem)

/-- A view in a block of its own. -/
def VBox (w : World) (B : Nat) (s : Value) (k c f : Int) : Prop :=
  B < w.heap.size ∧ w.cell? ⟨B, 0, none⟩ = some s ∧ w.cell? ⟨B, 1, none⟩ = some (.int .i64 k) ∧ w.cell? ⟨B, 2, none⟩ = some (.int .i64 c) ∧ w.cell? ⟨B, 3, none⟩ = some (.int .i64 f)
theorem VBox.below {w w' : World} {B : Nat} {s : Value} {k c f : Int} (h : VBox w B s k c f) (hb : Below w.heap.size w w') : VBox w' B s k c f :=
  ⟨Nat.lt_of_lt_of_le h.1 hb.size, below_cell hb h.2.1, below_cell hb h.2.2.1, below_cell hb h.2.2.2.1, below_cell hb h.2.2.2.2⟩
theorem VBox.fresh (w : World) (s : Value) (k c f : Int) : VBox (w.alloc (.cells #[s, .int .i64 k, .int .i64 c, .int .i64 f] 26)) w.heap.size s k c f :=
  ⟨by simp, by simp [World.cell?_alloc_new], by simp [World.cell?_alloc_new], by simp [World.cell?_alloc_new], by simp [World.cell?_alloc_new]⟩

theorem errM_cons (p : Int) (m : Mem) (v : List Mem) : QM.errM p (m :: v) = if QM.off m = true then 9 else if m.1 ≤ p then 7 else QM.errM m.1 v := rfl
/-- The server ahead of place k. -/
def prevM (xs : List Mem) (k : Nat) : Int := if k = 0 then 0 else (xs.getD (k - 1) (0, 0)).1
theorem prevM_succ {xs : List Mem} {k : Nat} {m : Mem} (h : xs[k]? = some m) : prevM xs (k + 1) = m.1 := by simp [prevM, List.getD, h]

set_option maxRecDepth 100000 in
set_option maxHeartbeats 4000000 in
theorem cValidate (s : Value) (k c f : Int) (ms : List Mem) (w : World) (h : RdM w s ms) :
    Calls Try.prog 14 #[vw s k c f] w fun e w' => e = .returned (.int .i64 (QM.errV k c f ms)) ∧ Below w.heap.size w w' := by
  have hr := fun w => cValRule k c f w
  have hv := VBox.fresh w s k c f
  have hB := below_fresh w (.cells #[s, .int .i64 k, .int .i64 c, .int .i64 f] 26)
  have h0 := h.below hB
  obtain ⟨ad, cp, rfl, hcp, hl⟩ := h.shape
  clear h
  obtain ⟨R, hR⟩ : ∃ R, R = QM.errV k c f ms := ⟨_, rfl⟩
  rw [← hR]
  unfold QM.errV at hR
  generalize QM.errR k c f = er at hr hR
  have HC := Lib.hid hr
  have H := Lib.hid h0
  have HV := Lib.hid hv
  have HB := Lib.hid hB
  clear hr h0 hv hB
  by_cases he : er = 0
  · subst he
    have HR := Lib.hid (show R = QM.errM (prevM ms 0) (ms.drop 0) by rw [hR, if_pos rfl]; rfl)
    clear hR
    go_enter Try.func14, Try.ntmps14
    go_wp2_with fail
    generalize hw0 : w.alloc _ = w0
    rw [hw0] at H HV HB
    clear hw0
    refine (HC.out _).mono ?_
    rintro e w1 ⟨rfl, hb1⟩
    have H1 := Lib.hid (H.out.below hb1)
    have HV1 := Lib.hid (HV.out.below hb1)
    have HB1 := Lib.hid (bnext HB.out hb1)
    obtain ⟨v0, v1, v2, v3, v4⟩ := HV1.out
    clear HC H HV HB hb1
    go_wp2
    go_loopw [15] (fun i wr => ∃ j : Nat, j ≤ ms.length ∧ i = .int .i64 j ∧ Below w1.heap.size w1 wr ∧ Hid (R = QM.errM (prevM ms j) (ms.drop j))) (fun i _ => ms.length - (intOf i).toNat)
    case atStart => exact ⟨0, Nat.zero_le _, rfl, Below.refl _ _, HR.out⟩
    case round =>
      obtain ⟨j, hj, rfl, hbl, he⟩ := hrel
      clear HR v0 v1 v2 v3 v4
      have hsz := hbl.size
      obtain ⟨u0, u1, u2, u3, u4⟩ := HV1.out.below hbl
      by_cases hlt : j < ms.length
      · obtain ⟨b, o, hi, hb, c0, c1⟩ := atM (H1.out.below hbl) j ms[j] (List.getElem?_eq_getElem hlt)
        have hq : (j : Int) < (ms.length : Int) := by omega
        have hd := Lib.hid (drop_get hlt)
        have hp := Lib.hid (prevM_succ (List.getElem?_eq_getElem hlt))
        have HX := Lib.hid ((bnext HB1.out hbl).alloc (bnext HB1.out hbl).size (.cells #[.int .i64 ms[j].1, .int .i64 ms[j].2] 44))
        have HY := Lib.hid (hbl.alloc hsz (.cells #[.int .i64 ms[j].1, .int .i64 ms[j].2] 44))
        generalize ms[j] = en at c0 c1 hd hp HX HY
        obtain ⟨x, n⟩ := en
        simp only at c0 c1 HX HY
        have HS := Lib.hid (fun w => cIsServer x w)
        have hsr := isSrv_iff (x := x)
        have hsf := isSrv_false (x := x)
        generalize QM.isSrv x = sx at HS hsr hsf
        by_cases hoff : QM.off (x, n) = true
        · have e2 := Lib.hid (show R = 9 by rw [he.out, hd.out, errM_cons, if_pos hoff])
          simp [QM.off] at hoff
          clear he hd hp
          cases sx
          · clear hsr hsf hoff
            go_wp2_with (go_at_call 32; refine (HS.out _).mono ?_; rintro e w2 ⟨rfl, rfl⟩)
            go_ret
            rw [e2.out]
            exact ⟨rfl, HX.out⟩
          · have hs := hsr.1 rfl
            clear hsr hsf
            by_cases h2 : n < 1
            · clear hoff
              go_wp2_with (go_at_call 32; refine (HS.out _).mono ?_; rintro e w2 ⟨rfl, rfl⟩)
              go_ret
              rw [e2.out]
              exact ⟨rfl, HX.out⟩
            · have h3 : 9 < n := by omega
              clear hoff
              go_wp2_with (go_at_call 32; refine (HS.out _).mono ?_; rintro e w2 ⟨rfl, rfl⟩)
              go_ret
              rw [e2.out]
              exact ⟨rfl, HX.out⟩
        · have e1 := Lib.hid (show R = if x ≤ prevM ms j then 7 else QM.errM x (ms.drop (j + 1)) by rw [he.out, hd.out, errM_cons, if_neg hoff])
          simp [QM.off] at hoff
          obtain ⟨h1, h4, h2, h3⟩ := hoff
          have hst : sx = true := hsr.2 ⟨by omega, by omega⟩
          subst hst
          clear hsr hsf
          have h2' : ¬ n < 1 := by omega
          have h3' : ¬ 9 < n := by omega
          clear he hd
          by_cases h0 : j = 0
          · subst h0
            have e2 := Lib.hid (show R = QM.errM (prevM ms (0 + 1)) (ms.drop (0 + 1)) by rw [e1.out, if_neg (by show ¬ x ≤ 0; omega), hp.out])
            have hi0 : ∀ w0 : World, (Instr.indexAt 24 (.slice ad ms.length cp) (.int .i64 0)).run Try.prog w0 = .ok (.pointer (some ⟨b, o, none⟩)) w0 := hi
            have hq0 : (0 : Int) < (ms.length : Int) := hq
            clear e1 hp hi hq
            go_wp2_with (go_at_call 32; refine (HS.out _).mono ?_; rintro e w2 ⟨rfl, rfl⟩)
            go_quiet (fail)
            go_wp2
            go_roundw
            case rel => exact ⟨0 + 1, by omega, by go_num, HY.out.trans (below_drewN _ _ _), e2⟩
            case measure => simp [intOf]; omega
          · have hk1 : (0 : Int) < (j : Int) := by omega
            have hk2 : 0 < j := by omega
            have hkl : j - 1 < ms.length := by omega
            obtain ⟨b2, o2, hi2, hb2, d0, d1⟩ := atM (H1.out.below hbl) (j - 1) ms[j - 1] (List.getElem?_eq_getElem hkl)
            have hpk := Lib.hid (show prevM ms j = ms[j - 1].1 by simp [prevM, h0, List.getD, List.getElem?_eq_getElem hkl])
            generalize ms[j - 1] = em at d0 d1 hpk
            obtain ⟨y, m⟩ := em
            simp only at d0 d1
            rw [show ((j - 1 : Nat) : Int) = (j : Int) - 1 by omega] at hi2
            by_cases hy : x ≤ y
            · have e2 := Lib.hid (show R = 7 by rw [e1.out, hpk.out, if_pos hy])
              clear e1 hp hpk
              go_wp2_with (go_at_call 32; refine (HS.out _).mono ?_; rintro e w2 ⟨rfl, rfl⟩)
              go_quiet (fail)
              go_wp2
              go_ret
              rw [e2.out]
              exact ⟨rfl, HX.out.trans (below_drewN _ _ _)⟩
            · have e2 := Lib.hid (show R = QM.errM (prevM ms (j + 1)) (ms.drop (j + 1)) by rw [e1.out, hpk.out, if_neg hy, hp.out])
              clear e1 hp hpk
              go_wp2_with (go_at_call 32; refine (HS.out _).mono ?_; rintro e w2 ⟨rfl, rfl⟩)
              go_quiet (fail)
              go_wp2
              go_roundw
              case rel => exact ⟨j + 1, by omega, by go_num, HY.out.trans (below_drewN _ _ _), e2⟩
              case measure => simp [intOf]; omega
      · have hq : ¬ ((j : Int) < (ms.length : Int)) := by omega
        have e2 := Lib.hid (show R = 0 by rw [he.out, List.drop_of_length_le (by omega)]; rfl)
        have HX := Lib.hid (bnext HB1.out hbl)
        clear he
        go_wp2
        go_ret
        rw [e2.out]
        exact ⟨rfl, HX.out⟩
  · have HR := Lib.hid (show R = er by rw [hR, if_neg he])
    have he' : (er != 0) = true := bne_t he
    clear hR he
    go_enter Try.func14, Try.ntmps14
    go_wp2_with fail
    generalize hw0 : w.alloc _ = w0
    rw [hw0] at HB
    clear hw0
    refine (HC.out _).mono ?_
    rintro e w1 ⟨rfl, hb1⟩
    have HB1 := Lib.hid (bnext HB.out hb1)
    clear HC H HV HB hb1
    go_wp2
    go_ret
    rw [HR.out]
    exact ⟨rfl, HB1.out⟩

set_option maxRecDepth 100000 in
set_option maxHeartbeats 4000000 in
theorem rValidate (s : Value) (k c f : Int) (ms : List Mem) (w : World) (h : RdM w s ms) :
    Calls Try.prog 15 #[vw s k c f] w fun e w' => e = .returned (.int .i64 (QM.errV k c f ms)) ∧ Below w.heap.size w w' := by
  have hr := fun w => rValRule k c f w
  have hv := VBox.fresh w s k c f
  have hB := below_fresh w (.cells #[s, .int .i64 k, .int .i64 c, .int .i64 f] 26)
  have h0 := h.below hB
  obtain ⟨ad, cp, rfl, hcp, hl⟩ := h.shape
  clear h
  obtain ⟨R, hR⟩ : ∃ R, R = QM.errV k c f ms := ⟨_, rfl⟩
  rw [← hR]
  unfold QM.errV at hR
  generalize QM.errR k c f = er at hr hR
  have HC := Lib.hid hr
  have H := Lib.hid h0
  have HV := Lib.hid hv
  have HB := Lib.hid hB
  clear hr h0 hv hB
  by_cases he : er = 0
  · subst he
    have HR := Lib.hid (show R = QM.errM (prevM ms 0) (ms.drop 0) by rw [hR, if_pos rfl]; rfl)
    clear hR
    go_enter Try.func15, Try.ntmps15
    go_wp2_with fail
    generalize hw0 : w.alloc _ = w0
    rw [hw0] at H HV HB
    clear hw0
    refine (HC.out _).mono ?_
    rintro e w1 ⟨rfl, hb1⟩
    have H1 := Lib.hid (H.out.below hb1)
    have HV1 := Lib.hid (HV.out.below hb1)
    have HB1 := Lib.hid (bnext HB.out hb1)
    obtain ⟨v0, v1, v2, v3, v4⟩ := HV1.out
    clear HC H HV HB hb1
    go_wp2
    go_loopw [4] (fun i wr => ∃ j : Nat, j ≤ ms.length ∧ i = .int .i64 j ∧ Below w1.heap.size w1 wr ∧ Hid (R = QM.errM (prevM ms j) (ms.drop j))) (fun i _ => ms.length - (intOf i).toNat)
    case atStart => exact ⟨0, Nat.zero_le _, rfl, Below.refl _ _, HR.out⟩
    case round =>
      obtain ⟨j, hj, rfl, hbl, he⟩ := hrel
      clear HR v0 v1 v2 v3 v4
      have hsz := hbl.size
      obtain ⟨u0, u1, u2, u3, u4⟩ := HV1.out.below hbl
      by_cases hlt : j < ms.length
      · obtain ⟨b, o, hi, hb, c0, c1⟩ := atM (H1.out.below hbl) j ms[j] (List.getElem?_eq_getElem hlt)
        have hq : (j : Int) < (ms.length : Int) := by omega
        have hd := Lib.hid (drop_get hlt)
        have hp := Lib.hid (prevM_succ (List.getElem?_eq_getElem hlt))
        have HX := Lib.hid ((bnext HB1.out hbl).alloc (bnext HB1.out hbl).size (.cells #[.int .i64 ms[j].1, .int .i64 ms[j].2] 44))
        have HY := Lib.hid (hbl.alloc hsz (.cells #[.int .i64 ms[j].1, .int .i64 ms[j].2] 44))
        generalize ms[j] = en at c0 c1 hd hp HX HY
        obtain ⟨x, n⟩ := en
        simp only at c0 c1 HX HY
        have HS := Lib.hid (fun w => rServer x w)
        have hsr := isSrv_iff (x := x)
        have hsf := isSrv_false (x := x)
        generalize QM.isSrv x = sx at HS hsr hsf
        by_cases hoff : QM.off (x, n) = true
        · have e2 := Lib.hid (show R = 9 by rw [he.out, hd.out, errM_cons, if_pos hoff])
          simp [QM.off] at hoff
          clear he hd hp
          cases sx
          · clear hsr hsf hoff
            go_wp2_with (go_at_call 31; refine (HS.out _).mono ?_; rintro e w2 ⟨rfl, rfl⟩)
            go_ret
            rw [e2.out]
            exact ⟨rfl, HX.out⟩
          · have hs := hsr.1 rfl
            clear hsr hsf
            by_cases h2 : n < 1
            · clear hoff
              go_wp2_with (go_at_call 31; refine (HS.out _).mono ?_; rintro e w2 ⟨rfl, rfl⟩)
              go_ret
              rw [e2.out]
              exact ⟨rfl, HX.out⟩
            · have h3 : 9 < n := by omega
              clear hoff
              go_wp2_with (go_at_call 31; refine (HS.out _).mono ?_; rintro e w2 ⟨rfl, rfl⟩)
              go_ret
              rw [e2.out]
              exact ⟨rfl, HX.out⟩
        · have e1 := Lib.hid (show R = if x ≤ prevM ms j then 7 else QM.errM x (ms.drop (j + 1)) by rw [he.out, hd.out, errM_cons, if_neg hoff])
          simp [QM.off] at hoff
          obtain ⟨h1, h4, h2, h3⟩ := hoff
          have hst : sx = true := hsr.2 ⟨by omega, by omega⟩
          subst hst
          clear hsr hsf
          have h2' : ¬ n < 1 := by omega
          have h3' : ¬ 9 < n := by omega
          clear he hd
          by_cases h0 : j = 0
          · subst h0
            have e2 := Lib.hid (show R = QM.errM (prevM ms (0 + 1)) (ms.drop (0 + 1)) by rw [e1.out, if_neg (by show ¬ x ≤ 0; omega), hp.out])
            have hi0 : ∀ w0 : World, (Instr.indexAt 24 (.slice ad ms.length cp) (.int .i64 0)).run Try.prog w0 = .ok (.pointer (some ⟨b, o, none⟩)) w0 := hi
            have hq0 : (0 : Int) < (ms.length : Int) := hq
            clear e1 hp hi hq
            go_wp2_with (go_at_call 31; refine (HS.out _).mono ?_; rintro e w2 ⟨rfl, rfl⟩)
            go_quiet (fail)
            go_wp2
            go_roundw
            case rel => exact ⟨0 + 1, by omega, by go_num, HY.out.trans (below_drewN _ _ _), e2⟩
            case measure => simp [intOf]; omega
          · have hk1 : (0 : Int) < (j : Int) := by omega
            have hk2 : 0 < j := by omega
            have hkl : j - 1 < ms.length := by omega
            obtain ⟨b2, o2, hi2, hb2, d0, d1⟩ := atM (H1.out.below hbl) (j - 1) ms[j - 1] (List.getElem?_eq_getElem hkl)
            have hpk := Lib.hid (show prevM ms j = ms[j - 1].1 by simp [prevM, h0, List.getD, List.getElem?_eq_getElem hkl])
            generalize ms[j - 1] = em at d0 d1 hpk
            obtain ⟨y, m⟩ := em
            simp only at d0 d1
            rw [show ((j - 1 : Nat) : Int) = (j : Int) - 1 by omega] at hi2
            by_cases hy : x ≤ y
            · have e2 := Lib.hid (show R = 7 by rw [e1.out, hpk.out, if_pos hy])
              clear e1 hp hpk
              go_wp2_with (go_at_call 31; refine (HS.out _).mono ?_; rintro e w2 ⟨rfl, rfl⟩)
              go_quiet (fail)
              go_wp2
              go_ret
              rw [e2.out]
              exact ⟨rfl, HX.out.trans (below_drewN _ _ _)⟩
            · have e2 := Lib.hid (show R = QM.errM (prevM ms (j + 1)) (ms.drop (j + 1)) by rw [e1.out, hpk.out, if_neg hy, hp.out])
              clear e1 hp hpk
              go_wp2_with (go_at_call 31; refine (HS.out _).mono ?_; rintro e w2 ⟨rfl, rfl⟩)
              go_quiet (fail)
              go_wp2
              go_roundw
              case rel => exact ⟨j + 1, by omega, by go_num, HY.out.trans (below_drewN _ _ _), e2⟩
              case measure => simp [intOf]; omega
      · have hq : ¬ ((j : Int) < (ms.length : Int)) := by omega
        have e2 := Lib.hid (show R = 0 by rw [he.out, List.drop_of_length_le (by omega)]; rfl)
        have HX := Lib.hid (bnext HB1.out hbl)
        clear he
        go_wp2
        go_ret
        rw [e2.out]
        exact ⟨rfl, HX.out⟩
  · have HR := Lib.hid (show R = er by rw [hR, if_neg he])
    have he' : (er != 0) = true := bne_t he
    clear hR he
    go_enter Try.func15, Try.ntmps15
    go_wp2_with fail
    generalize hw0 : w.alloc _ = w0
    rw [hw0] at HB
    clear hw0
    refine (HC.out _).mono ?_
    rintro e w1 ⟨rfl, hb1⟩
    have HB1 := Lib.hid (bnext HB.out hb1)
    clear HC H HV HB hb1
    go_wp2
    go_ret
    rw [HR.out]
    exact ⟨rfl, HB1.out⟩

end Go.Proofs.Ytbbgjckiooejhaa
