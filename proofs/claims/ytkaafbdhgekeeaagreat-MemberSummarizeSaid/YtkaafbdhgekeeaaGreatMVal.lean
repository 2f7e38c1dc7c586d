/-
  The calls of ValidateView and ValidateGenesis, the program's and the reference's: each returns the error that the plain mathematics says. No conditions beyond that the members read.
-/
import Derived.Test.YtkaafbdhgekeeaaGreatMFun
namespace Go.Proofs.YtkaafbdhgekeeaaGreat
open Go.RowKit
open MM (Mem Ent Sm Tri)

theorem isSrv_false {x : Int} : JM.isSrv x = false ↔ x < 1 ∨ 12 < x := by
  unfold JM.isSrv
  rw [decide_eq_false_iff_not]; omega
theorem errM_cons (p : Int) (m : Mem) (v : List Mem) : MM.errM p (m :: v) = if MM.off m = true then 9 else if m.1 ≤ p then 7 else MM.errM m.1 v := rfl
/-- The server ahead of place k. -/
def prevM (xs : List Mem) (k : Nat) : Int := if k = 0 then 0 else (xs.getD (k - 1) (0, 0)).1
theorem prevM_succ {xs : List Mem} {k : Nat} {m : Mem} (h : xs[k]? = some m) : prevM xs (k + 1) = m.1 := by simp [prevM, List.getD, h]

set_option maxRecDepth 100000 in
set_option maxHeartbeats 4000000 in
theorem gValView (s : Value) (k c f : Int) (ms : List Mem) (w : World) (h : RdM w s ms) :
    Calls Tryz.prog 40 #[vw s k c f] w fun e w' => e = .returned (.int .i64 (MM.errV k c f ms)) ∧ Below w.heap.size w w' := by
  have hr := fun w => cValRule k c f w
  have hv := VBox.fresh w 41 s k c f
  have hB := below_fresh w (.cells #[s, .int .i64 k, .int .i64 c, .int .i64 f] 41)
  have h0 := h.below hB
  obtain ⟨ad, cp, rfl, hcp, hl⟩ := h.shape
  clear h
  obtain ⟨R, hR⟩ : ∃ R, R = MM.errV k c f ms := ⟨_, rfl⟩
  rw [← hR]
  unfold MM.errV at hR
  generalize JM.errR k c f = er at hr hR
  have HC := Lib.hid hr
  have H := Lib.hid h0
  have HV := Lib.hid hv
  have HB := Lib.hid hB
  clear hr h0 hv hB
  by_cases he : er = 0
  · subst he
    have HR := Lib.hid (show R = MM.errM (prevM ms 0) (ms.drop 0) by rw [hR, if_pos rfl]; rfl)
    clear hR
    go_enter Tryz.func40, Tryz.ntmps40
    go_wp2_with fail
    generalize hw0 : w.alloc _ = w0
    rw [hw0] at H HV HB
    clear hw0
    refine (HC.out _).mono ?_
    rintro e w1 ⟨rfl, hb1⟩
    have H1 := Lib.hid (H.out.below hb1)
    have HV1 := Lib.hid (HV.out.below hb1)
    have HB1 := Lib.hid (bnext HB.out hb1)
    obtain ⟨v0, v1, v2, v3, v4⟩ := HV1.out
    clear HC H HV HB hb1
    go_wp2
    go_loopw [15] (fun i wr => ∃ j : Nat, j ≤ ms.length ∧ i = .int .i64 j ∧ Below w1.heap.size w1 wr ∧ Hid (R = MM.errM (prevM ms j) (ms.drop j))) (fun i _ => ms.length - (intOf i).toNat)
    case atStart => exact ⟨0, Nat.zero_le _, rfl, Below.refl _ _, HR.out⟩
    case round =>
      obtain ⟨j, hj, rfl, hbl, he⟩ := hrel
      clear HR v0 v1 v2 v3 v4
      have hsz := hbl.size
      obtain ⟨u0, u1, u2, u3, u4⟩ := HV1.out.below hbl
      by_cases hlt : j < ms.length
      · obtain ⟨b, o, hi, hb, c0, c1⟩ := atM (H1.out.below hbl) j ms[j] (List.getElem?_eq_getElem hlt)
        have hq : (j : Int) < (ms.length : Int) := by omega
        have hd := Lib.hid (drop_get hlt)
        have hp := Lib.hid (prevM_succ (List.getElem?_eq_getElem hlt))
        have HX := Lib.hid ((bnext HB1.out hbl).alloc (bnext HB1.out hbl).size (.cells #[.int .i64 ms[j].1, .int .i64 ms[j].2] 48))
        have HY := Lib.hid (hbl.alloc hsz (.cells #[.int .i64 ms[j].1, .int .i64 ms[j].2] 48))
        generalize ms[j] = en at c0 c1 hd hp HX HY
        obtain ⟨x, n⟩ := en
        simp only at c0 c1 HX HY
        have HS := Lib.hid (fun w => cIsServer x w)
        have hsr := JM.isSrv_iff (x := x)
        have hsf := isSrv_false (x := x)
        generalize JM.isSrv x = sx at HS hsr hsf
        by_cases hoff : MM.off (x, n) = true
        · have e2 := Lib.hid (show R = 9 by rw [he.out, hd.out, errM_cons, if_pos hoff])
          simp [MM.off] at hoff
          clear he hd hp
          cases sx
          · clear hsr hsf hoff
            go_wp2_with (go_at_call 69; refine (HS.out _).mono ?_; rintro e w2 ⟨rfl, rfl⟩)
            go_ret
            rw [e2.out]
            exact ⟨rfl, HX.out⟩
          · have hs := hsr.1 rfl
            clear hsr hsf
            by_cases h2 : n < 1
            · clear hoff
              go_wp2_with (go_at_call 69; refine (HS.out _).mono ?_; rintro e w2 ⟨rfl, rfl⟩)
              go_ret
              rw [e2.out]
              exact ⟨rfl, HX.out⟩
            · have h3 : 9 < n := by omega
              clear hoff
              go_wp2_with (go_at_call 69; refine (HS.out _).mono ?_; rintro e w2 ⟨rfl, rfl⟩)
              go_ret
              rw [e2.out]
              exact ⟨rfl, HX.out⟩
        · have e1 := Lib.hid (show R = if x ≤ prevM ms j then 7 else MM.errM x (ms.drop (j + 1)) by rw [he.out, hd.out, errM_cons, if_neg hoff])
          simp [MM.off] at hoff
          obtain ⟨h1, h4, h2, h3⟩ := hoff
          have hst : sx = true := hsr.2 ⟨by omega, by omega⟩
          subst hst
          clear hsr hsf
          have h2' : ¬ n < 1 := by omega
          have h3' : ¬ 9 < n := by omega
          clear he hd
          by_cases h0 : j = 0
          · subst h0
            have e2 := Lib.hid (show R = MM.errM (prevM ms (0 + 1)) (ms.drop (0 + 1)) by rw [e1.out, if_neg (by show ¬ x ≤ 0; omega), hp.out])
            have hi0 : ∀ w0 : World, (Instr.indexAt 22 (.slice ad ms.length cp) (.int .i64 0)).run Tryz.prog w0 = .ok (.pointer (some ⟨b, o, none⟩)) w0 := hi
            have hq0 : (0 : Int) < (ms.length : Int) := hq
            clear e1 hp hi hq
            go_wp2_with (go_at_call 69; refine (HS.out _).mono ?_; rintro e w2 ⟨rfl, rfl⟩)
            go_quiet (fail)
            go_wp2
            go_roundw
            case rel => exact ⟨0 + 1, by omega, by go_num, HY.out.trans (below_drewN _ _ _), e2⟩
            case measure => simp [intOf]; omega
          · have hk1 : (0 : Int) < (j : Int) := by omega
            have hk2 : 0 < j := by omega
            have hkl : j - 1 < ms.length := by omega
            obtain ⟨b2, o2, hi2, hb2, d0, d1⟩ := atM (H1.out.below hbl) (j - 1) ms[j - 1] (List.getElem?_eq_getElem hkl)
            have hpk := Lib.hid (show prevM ms j = ms[j - 1].1 by simp [prevM, h0, List.getD, List.getElem?_eq_getElem hkl])
            generalize ms[j - 1] = em at d0 d1 hpk
            obtain ⟨y, m⟩ := em
            simp only at d0 d1
            rw [show ((j - 1 : Nat) : Int) = (j : Int) - 1 by omega] at hi2
            by_cases hy : x ≤ y
            · have e2 := Lib.hid (show R = 7 by rw [e1.out, hpk.out, if_pos hy])
              clear e1 hp hpk
              go_wp2_with (go_at_call 69; refine (HS.out _).mono ?_; rintro e w2 ⟨rfl, rfl⟩)
              go_quiet (fail)
              go_wp2
              go_ret
              rw [e2.out]
              exact ⟨rfl, HX.out.trans (below_drewN _ _ _)⟩
            · have e2 := Lib.hid (show R = MM.errM (prevM ms (j + 1)) (ms.drop (j + 1)) by rw [e1.out, hpk.out, if_neg hy, hp.out])
              clear e1 hp hpk
              go_wp2_with (go_at_call 69; refine (HS.out _).mono ?_; rintro e w2 ⟨rfl, rfl⟩)
              go_quiet (fail)
              go_wp2
              go_roundw
              case rel => exact ⟨j + 1, by omega, by go_num, HY.out.trans (below_drewN _ _ _), e2⟩
              case measure => simp [intOf]; omega
      · have hq : ¬ ((j : Int) < (ms.length : Int)) := by omega
        have e2 := Lib.hid (show R = 0 by rw [he.out, List.drop_of_length_le (by omega)]; rfl)
        have HX := Lib.hid (bnext HB1.out hbl)
        clear he
        go_wp2
        go_ret
        rw [e2.out]
        exact ⟨rfl, HX.out⟩
  · have HR := Lib.hid (show R = er by rw [hR, if_neg he])
    have he' : (er != 0) = true := bne_t he
    clear hR he
    go_enter Tryz.func40, Tryz.ntmps40
    go_wp2_with fail
    generalize hw0 : w.alloc _ = w0
    rw [hw0] at HB
    clear hw0
    refine (HC.out _).mono ?_
    rintro e w1 ⟨rfl, hb1⟩
    have HB1 := Lib.hid (bnext HB.out hb1)
    clear HC H HV HB hb1
    go_wp2
    go_ret
    rw [HR.out]
    exact ⟨rfl, HB1.out⟩

set_option maxRecDepth 100000 in
set_option maxHeartbeats 4000000 in
theorem rValView (s : Value) (k c f : Int) (ms : List Mem) (w : World) (h : RdM w s ms) :
    Calls Tryz.prog 10 #[vw s k c f] w fun e w' => e = .returned (.int .i64 (MM.errV k c f ms)) ∧ Below w.heap.size w w' := by
  have hr := fun w => rValRule k c f w
  have hv := VBox.fresh w 41 s k c f
  have hB := below_fresh w (.cells #[s, .int .i64 k, .int .i64 c, .int .i64 f] 41)
  have h0 := h.below hB
  obtain ⟨ad, cp, rfl, hcp, hl⟩ := h.shape
  clear h
  obtain ⟨R, hR⟩ : ∃ R, R = MM.errV k c f ms := ⟨_, rfl⟩
  rw [← hR]
  unfold MM.errV at hR
  generalize JM.errR k c f = er at hr hR
  have HC := Lib.hid hr
  have H := Lib.hid h0
  have HV := Lib.hid hv
  have HB := Lib.hid hB
  clear hr h0 hv hB
  by_cases he : er = 0
  · subst he
    have HR := Lib.hid (show R = MM.errM (prevM ms 0) (ms.drop 0) by rw [hR, if_pos rfl]; rfl)
    clear hR
    go_enter Tryz.func10, Tryz.ntmps10
    go_wp2_with fail
    generalize hw0 : w.alloc _ = w0
    rw [hw0] at H HV HB
    clear hw0
    refine (HC.out _).mono ?_
    rintro e w1 ⟨rfl, hb1⟩
    have H1 := Lib.hid (H.out.below hb1)
    have HV1 := Lib.hid (HV.out.below hb1)
    have HB1 := Lib.hid (bnext HB.out hb1)
    obtain ⟨v0, v1, v2, v3, v4⟩ := HV1.out
    clear HC H HV HB hb1
    go_wp2
    go_loopw [4] (fun i wr => ∃ j : Nat, j ≤ ms.length ∧ i = .int .i64 j ∧ Below w1.heap.size w1 wr ∧ Hid (R = MM.errM (prevM ms j) (ms.drop j))) (fun i _ => ms.length - (intOf i).toNat)
    case atStart => exact ⟨0, Nat.zero_le _, rfl, Below.refl _ _, HR.out⟩
    case round =>
      obtain ⟨j, hj, rfl, hbl, he⟩ := hrel
      clear HR v0 v1 v2 v3 v4
      have hsz := hbl.size
      obtain ⟨u0, u1, u2, u3, u4⟩ := HV1.out.below hbl
      by_cases hlt : j < ms.length
      · obtain ⟨b, o, hi, hb, c0, c1⟩ := atM (H1.out.below hbl) j ms[j] (List.getElem?_eq_getElem hlt)
        have hq : (j : Int) < (ms.length : Int) := by omega
        have hd := Lib.hid (drop_get hlt)
        have hp := Lib.hid (prevM_succ (List.getElem?_eq_getElem hlt))
        have HX := Lib.hid ((bnext HB1.out hbl).alloc (bnext HB1.out hbl).size (.cells #[.int .i64 ms[j].1, .int .i64 ms[j].2] 48))
        have HY := Lib.hid (hbl.alloc hsz (.cells #[.int .i64 ms[j].1, .int .i64 ms[j].2] 48))
        generalize ms[j] = en at c0 c1 hd hp HX HY
        obtain ⟨x, n⟩ := en
        simp only at c0 c1 HX HY
        have HS := Lib.hid (fun w => rServer x w)
        have hsr := JM.isSrv_iff (x := x)
        have hsf := isSrv_false (x := x)
        generalize JM.isSrv x = sx at HS hsr hsf
        by_cases hoff : MM.off (x, n) = true
        · have e2 := Lib.hid (show R = 9 by rw [he.out, hd.out, errM_cons, if_pos hoff])
          simp [MM.off] at hoff
          clear he hd hp
          cases sx
          · clear hsr hsf hoff
            go_wp2_with (go_at_call 28; refine (HS.out _).mono ?_; rintro e w2 ⟨rfl, rfl⟩)
            go_ret
            rw [e2.out]
            exact ⟨rfl, HX.out⟩
          · have hs := hsr.1 rfl
            clear hsr hsf
            by_cases h2 : n < 1
            · clear hoff
              go_wp2_with (go_at_call 28; refine (HS.out _).mono ?_; rintro e w2 ⟨rfl, rfl⟩)
              go_ret
              rw [e2.out]
              exact ⟨rfl, HX.out⟩
            · have h3 : 9 < n := by omega
              clear hoff
              go_wp2_with (go_at_call 28; refine (HS.out _).mono ?_; rintro e w2 ⟨rfl, rfl⟩)
              go_ret
              rw [e2.out]
              exact ⟨rfl, HX.out⟩
        · have e1 := Lib.hid (show R = if x ≤ prevM ms j then 7 else MM.errM x (ms.drop (j + 1)) by rw [he.out, hd.out, errM_cons, if_neg hoff])
          simp [MM.off] at hoff
          obtain ⟨h1, h4, h2, h3⟩ := hoff
          have hst : sx = true := hsr.2 ⟨by omega, by omega⟩
          subst hst
          clear hsr hsf
          have h2' : ¬ n < 1 := by omega
          have h3' : ¬ 9 < n := by omega
          clear he hd
          by_cases h0 : j = 0
          · subst h0
            have e2 := Lib.hid (show R = MM.errM (prevM ms (0 + 1)) (ms.drop (0 + 1)) by rw [e1.out, if_neg (by show ¬ x ≤ 0; omega), hp.out])
            have hi0 : ∀ w0 : World, (Instr.indexAt 22 (.slice ad ms.length cp) (.int .i64 0)).run Tryz.prog w0 = .ok (.pointer (some ⟨b, o, none⟩)) w0 := hi
            have hq0 : (0 : Int) < (ms.length : Int) := hq
            clear e1 hp hi hq
            go_wp2_with (go_at_call 28; refine (HS.out _).mono ?_; rintro e w2 ⟨rfl, rfl⟩)
            go_quiet (fail)
            go_wp2
            go_roundw
            case rel => exact ⟨0 + 1, by omega, by go_num, HY.out.trans (below_drewN _ _ _), e2⟩
            case measure => simp [intOf]; omega
          · have hk1 : (0 : Int) < (j : Int) := by omega
            have hk2 : 0 < j := by omega
            have hkl : j - 1 < ms.length := by omega
            obtain ⟨b2, o2, hi2, hb2, d0, d1⟩ := atM (H1.out.below hbl) (j - 1) ms[j - 1] (List.getElem?_eq_getElem hkl)
            have hpk := Lib.hid (show prevM ms j = ms[j - 1].1 by simp [prevM, h0, List.getD, List.getElem?_eq_getElem hkl])
            generalize ms[j - 1] = em at d0 d1 hpk
            obtain ⟨y, m⟩ := em
            simp only at d0 d1
            rw [show ((j - 1 : Nat) : Int) = (j : Int) - 1 by omega] at hi2
            by_cases hy : x ≤ y
            · have e2 := Lib.hid (show R = 7 by rw [e1.out, hpk.out, if_pos hy])
              clear e1 hp hpk
              go_wp2_with (go_at_call 28; refine (HS.out _).mono ?_; rintro e w2 ⟨rfl, rfl⟩)
              go_quiet (fail)
              go_wp2
              go_ret
              rw [e2.out]
              exact ⟨rfl, HX.out.trans (below_drewN _ _ _)⟩
            · have e2 := Lib.hid (show R = MM.errM (prevM ms (j + 1)) (ms.drop (j + 1)) by rw [e1.out, hpk.out, if_neg hy, hp.out])
              clear e1 hp hpk
              go_wp2_with (go_at_call 28; refine (HS.out _).mono ?_; rintro e w2 ⟨rfl, rfl⟩)
              go_quiet (fail)
              go_wp2
              go_roundw
              case rel => exact ⟨j + 1, by omega, by go_num, HY.out.trans (below_drewN _ _ _), e2⟩
              case measure => simp [intOf]; omega
      · have hq : ¬ ((j : Int) < (ms.length : Int)) := by omega
        have e2 := Lib.hid (show R = 0 by rw [he.out, List.drop_of_length_le (by omega)]; rfl)
        have HX := Lib.hid (bnext HB1.out hbl)
        clear he
        go_wp2
        go_ret
        rw [e2.out]
        exact ⟨rfl, HX.out⟩
  · have HR := Lib.hid (show R = er by rw [hR, if_neg he])
    have he' : (er != 0) = true := bne_t he
    clear hR he
    go_enter Tryz.func10, Tryz.ntmps10
    go_wp2_with fail
    generalize hw0 : w.alloc _ = w0
    rw [hw0] at HB
    clear hw0
    refine (HC.out _).mono ?_
    rintro e w1 ⟨rfl, hb1⟩
    have HB1 := Lib.hid (bnext HB.out hb1)
    clear HC H HV HB hb1
    go_wp2
    go_ret
    rw [HR.out]
    exact ⟨rfl, HB1.out⟩


set_option maxRecDepth 100000 in
set_option maxHeartbeats 1000000 in
theorem cValGen (s : Value) (k c f : Int) (ms : List Mem) (w : World) (h : RdM w s ms) :
    Calls Tryz.prog 17 #[vw s k c f] w fun e w' => e = .returned (.int .i64 (MM.errG k c f ms)) ∧ Below w.heap.size w w' := by
  have hB := below_fresh w (.cells #[s, .int .i64 k, .int .i64 c, .int .i64 f] 26)
  have hv := VBox.fresh w 26 s k c f
  have h0 := h.below hB
  obtain ⟨ad, cp, rfl, hcp, hl⟩ := h.shape
  generalize hw : w.alloc (.cells #[.slice ad ms.length cp, .int .i64 k, .int .i64 c, .int .i64 f] 26) = wa at hB hv h0
  have HC := Lib.hid (fun w' => gValView (.slice ad ms.length cp) k c f ms w')
  obtain ⟨v0, v1, v2, v3, v4⟩ := hv
  obtain ⟨R, hR⟩ : ∃ R, R = MM.errG k c f ms := ⟨_, rfl⟩
  rw [← hR]
  unfold MM.errG at hR
  generalize MM.errV k c f ms = ev at hR HC
  have HW := Lib.hid hw
  have HB := Lib.hid hB
  have H0 := Lib.hid h0
  have HV := Lib.hid (show VBox wa w.heap.size (.slice ad ms.length cp) k c f from ⟨v0, v1, v2, v3, v4⟩)
  clear h hw hB h0 v0
  by_cases he : ev = 0
  · subst he
    by_cases hn : ms.length = 0
    · have e := Lib.hid (show R = 2 by rw [hR, if_pos rfl, if_pos (List.eq_nil_of_length_eq_zero hn)])
      have hz : ((ms.length : Int) == 0) = true := beq_t (by omega)
      clear hR hn hl
      go_enter Tryz.func17, Tryz.ntmps17
      go_wp2_with fail
      rw [HW.out]
      refine (HC.out _ H0.out).mono ?_
      rintro e1 w1 ⟨rfl, hb1⟩
      obtain ⟨u0, u1, u2, u3, u4⟩ := HV.out.below hb1
      have HB1 := Lib.hid (bnext HB.out hb1)
      clear hb1 v1 v2 v3 v4
      go_wp2
      go_ret
      rw [e.out]
      exact ⟨rfl, HB1.out⟩
    · have e := Lib.hid (show R = 0 by rw [hR, if_pos rfl, if_neg (fun h => hn (by rw [h]; rfl))])
      have hz : ((ms.length : Int) == 0) = false := beq_f (by omega)
      clear hR hn hl
      go_enter Tryz.func17, Tryz.ntmps17
      go_wp2_with fail
      rw [HW.out]
      refine (HC.out _ H0.out).mono ?_
      rintro e1 w1 ⟨rfl, hb1⟩
      obtain ⟨u0, u1, u2, u3, u4⟩ := HV.out.below hb1
      have HB1 := Lib.hid (bnext HB.out hb1)
      clear hb1 v1 v2 v3 v4
      go_wp2
      go_ret
      rw [e.out]
      exact ⟨rfl, HB1.out⟩
  · have e := Lib.hid (show R = ev by rw [hR, if_neg he])
    have hne : (ev != 0) = true := bne_t he
    clear hR he
    go_enter Tryz.func17, Tryz.ntmps17
    go_wp2_with fail
    rw [HW.out]
    refine (HC.out _ H0.out).mono ?_
    rintro e1 w1 ⟨rfl, hb1⟩
    have HB1 := Lib.hid (bnext HB.out hb1)
    clear hb1 v1 v2 v3 v4
    go_wp2
    go_ret
    rw [e.out]
    exact ⟨rfl, HB1.out⟩

set_option maxRecDepth 100000 in
set_option maxHeartbeats 1000000 in
theorem rValGen (s : Value) (k c f : Int) (ms : List Mem) (w : World) (h : RdM w s ms) :
    Calls Tryz.prog 4 #[vw s k c f] w fun e w' => e = .returned (.int .i64 (MM.errG k c f ms)) ∧ Below w.heap.size w w' := by
  have hB := below_fresh w (.cells #[s, .int .i64 k, .int .i64 c, .int .i64 f] 26)
  have hv := VBox.fresh w 26 s k c f
  have h0 := h.below hB
  obtain ⟨ad, cp, rfl, hcp, hl⟩ := h.shape
  generalize hw : w.alloc (.cells #[.slice ad ms.length cp, .int .i64 k, .int .i64 c, .int .i64 f] 26) = wa at hB hv h0
  have HC := Lib.hid (fun w' => rValView (.slice ad ms.length cp) k c f ms w')
  obtain ⟨v0, v1, v2, v3, v4⟩ := hv
  obtain ⟨R, hR⟩ : ∃ R, R = MM.errG k c f ms := ⟨_, rfl⟩
  rw [← hR]
  unfold MM.errG at hR
  generalize MM.errV k c f ms = ev at hR HC
  have HW := Lib.hid hw
  have HB := Lib.hid hB
  have H0 := Lib.hid h0
  have HV := Lib.hid (show VBox wa w.heap.size (.slice ad ms.length cp) k c f from ⟨v0, v1, v2, v3, v4⟩)
  clear h hw hB h0 v0
  by_cases he : ev = 0
  · subst he
    by_cases hn : ms.length = 0
    · have e := Lib.hid (show R = 2 by rw [hR, if_pos rfl, if_pos (List.eq_nil_of_length_eq_zero hn)])
      have hz : ((ms.length : Int) == 0) = true := beq_t (by omega)
      clear hR hn hl
      go_enter Tryz.func4, Tryz.ntmps4
      go_wp2_with fail
      rw [HW.out]
      refine (HC.out _ H0.out).mono ?_
      rintro e1 w1 ⟨rfl, hb1⟩
      obtain ⟨u0, u1, u2, u3, u4⟩ := HV.out.below hb1
      have HB1 := Lib.hid (bnext HB.out hb1)
      clear hb1 v1 v2 v3 v4
      go_wp2
      go_ret
      rw [e.out]
      exact ⟨rfl, HB1.out⟩
    · have e := Lib.hid (show R = 0 by rw [hR, if_pos rfl, if_neg (fun h => hn (by rw [h]; rfl))])
      have hz : ((ms.length : Int) == 0) = false := beq_f (by omega)
      clear hR hn hl
      go_enter Tryz.func4, Tryz.ntmps4
      go_wp2_with fail
      rw [HW.out]
      refine (HC.out _ H0.out).mono ?_
      rintro e1 w1 ⟨rfl, hb1⟩
      obtain ⟨u0, u1, u2, u3, u4⟩ := HV.out.below hb1
      have HB1 := Lib.hid (bnext HB.out hb1)
      clear hb1 v1 v2 v3 v4
      go_wp2
      go_ret
      rw [e.out]
      exact ⟨rfl, HB1.out⟩
  · have e := Lib.hid (show R = ev by rw [hR, if_neg he])
    have hne : (ev != 0) = true := bne_t he
    clear hR he
    go_enter Tryz.func4, Tryz.ntmps4
    go_wp2_with fail
    rw [HW.out]
    refine (HC.out _ H0.out).mono ?_
    rintro e1 w1 ⟨rfl, hb1⟩
    have HB1 := Lib.hid (bnext HB.out hb1)
    clear hb1 v1 v2 v3 v4
    go_wp2
    go_ret
    rw [e.out]
    exact ⟨rfl, HB1.out⟩

end Go.Proofs.YtkaafbdhgekeeaaGreat
