/-
  The calls of the reference's In, grid, IsQuorum and of the law's small: each says what the plain quorum test says. Conditions: the members and servers read; the view is valid.
-/
import Derived.Test.YtbbgjckiooejhaaQHold
namespace Go.Proofs.Ytbbgjckiooejhaa
open Go.RowKit
open QM (Mem)

set_option maxRecDepth 100000 in
set_option maxHeartbeats 1000000 in
theorem rIn (v : Value) (xs : List Int) (x : Int) (w : World) (h : RdI w v xs) :
    Calls Try.prog 23 #[v, .int .i64 x] w fun e w' => e = .returned (.bool (decide (x ∈ xs))) ∧ w = w' := by
  obtain ⟨ad, c, rfl, hc, hl⟩ := h.shape
  have H := Lib.hid h
  clear h
  obtain ⟨R, hR⟩ : ∃ R, R = decide (x ∈ xs) := ⟨_, rfl⟩
  rw [← hR]
  have HR := Lib.hid hR
  clear hR
  go_enter Try.func23, Try.ntmps23
  go_wp2
  go_loop [5] (fun i => ∃ k : Nat, k ≤ xs.length ∧ i = .int .i64 k ∧ Hid (R = decide (x ∈ xs.drop k))) (fun i => xs.length - (intOf i).toNat)
  case atStart => exact ⟨0, Nat.zero_le _, rfl, HR.out⟩
  case round =>
    obtain ⟨k, hk, rfl, he⟩ := hrel
    clear HR
    by_cases hlt : k < xs.length
    · obtain ⟨b, o, hi, hb, c0⟩ := atI H.out k xs[k] (List.getElem?_eq_getElem hlt)
      have hq : (k : Int) < (xs.length : Int) := by omega
      have hd := Lib.hid (drop_get hlt)
      generalize xs[k] = y at c0 hd
      by_cases hx : y = x
      · have e2 := Lib.hid (show R = true by rw [he.out, hd.out, hx]; simp)
        subst hx
        clear he hd
        go_wp2
        go_ret
        rw [e2.out]
        exact ⟨rfl, rfl⟩
      · have e2 := Lib.hid (show R = decide (x ∈ xs.drop (k + 1)) by rw [he.out, hd.out, decide_eq_decide, List.mem_cons]; exact ⟨fun h => h.resolve_left fun h => hx h.symm, .inr⟩)
        have hx' : (y == x) = false := beq_f hx
        clear he hd hx
        go_wp2
        go_round
        case rel => exact ⟨k + 1, by omega, by go_num, e2⟩
        case measure => simp [intOf]; omega
    · have hq : ¬ ((k : Int) < (xs.length : Int)) := by omega
      have e2 := Lib.hid (show R = false by rw [he.out, List.drop_of_length_le (by omega)]; rfl)
      clear he
      go_wp2
      go_ret
      rw [e2.out]
      exact ⟨rfl, rfl⟩

theorem any_cnt (p : Int → Bool) (r : List Mem) : (r.any fun m => p m.1) = decide (QM.cnt p r ≠ 0) := by
  rw [Bool.eq_iff_iff, decide_eq_true_iff, List.any_eq_true]
  unfold QM.cnt
  rw [Nat.ne_zero_iff_zero_lt, List.countP_pos_iff]
theorem all_cnt (p : Int → Bool) (r : List Mem) : (r.all fun m => p m.1) = decide (QM.cnt p r = r.length) := by
  rw [Bool.eq_iff_iff, decide_eq_true_iff, List.all_eq_true]
  unfold QM.cnt
  rw [List.countP_eq_length]

set_option maxRecDepth 100000 in
set_option maxHeartbeats 4000000 in
theorem rGrid (sv xv : Value) (k f : Int) (c : Nat) (ms : List Mem) (xs : List Int) (w : World) (hr : RdM w sv ms) (hx : RdI w xv xs) (hval : QM.Val 0 ms) (hc : 1 ≤ c) (hc12 : c ≤ 12) :
    Calls Try.prog 36 #[vw sv k (c : Int) f, xv] w fun e w' => e = .returned (.bool (QM.grid c (fun x => decide (x ∈ xs)) ms)) ∧ Below w.heap.size w w' := by
  have hlen := hval.length (Int.le_refl 0) (by decide)
  have hv := VBox.fresh w sv k (c : Int) f
  have hB := below_fresh w (.cells #[sv, .int .i64 k, .int .i64 (c : Int), .int .i64 f] 26)
  have h0 := hr.below hB
  have x0 := hx.below hB
  obtain ⟨ad, cp, rfl, hcp, hl⟩ := hr.shape
  have H := Lib.hid h0
  have HX := Lib.hid (fun x => rIn xv xs x _ x0)
  have HB := Lib.hid hB
  obtain ⟨p, hp⟩ : ∃ p : Int → Bool, p = fun x => decide (x ∈ xs) := ⟨_, rfl⟩
  have hpx : ∀ x, decide (x ∈ xs) = p x := fun x => by rw [hp]
  have HP := Lib.hid hpx
  rw [← hp]
  obtain ⟨R, hR⟩ : ∃ R, R = QM.grid c p ms := ⟨_, rfl⟩
  rw [← hR]
  have HR := Lib.hid (show R = ((false || (QM.rows c (ms.drop 0)).any fun r => r.all fun m => p m.1) && (QM.rows c (ms.drop 0)).all fun r => r.any fun m => p m.1) by rw [hR, Bool.false_or]; rfl)
  clear h0 x0 hB hr hx hval hp hpx hR
  generalize hw0 : w.alloc (.cells #[.slice ad ms.length cp, .int .i64 k, .int .i64 (c : Int), .int .i64 f] 26) = w0 at H HX HB hv
  obtain ⟨v0, v1, v2, v3, v4⟩ := hv
  have HW0 := Lib.hid hw0
  clear hw0
  go_enter Try.func36, Try.ntmps36
  go_wp2
  rw [HW0.out]
  go_loop [5, 6] (fun b i => ∃ (j : Nat) (wh : Bool), j ≤ 112 ∧ i = .int .i64 j ∧ b = .bool wh ∧ Hid (R = ((wh || (QM.rows c (ms.drop j)).any fun r => r.all fun m => p m.1) && (QM.rows c (ms.drop j)).all fun r => r.any fun m => p m.1))) (fun _ i => ms.length - (intOf i).toNat)
  case atStart => exact ⟨0, false, by decide, rfl, rfl, HR.out⟩
  case round =>
    obtain ⟨j, wh, hj, rfl, rfl, he⟩ := hrel
    clear HR
    by_cases hlt : j < ms.length
    · have hq : (j : Int) < (ms.length : Int) := by omega
      have hrow := rows_drop hc hlt
      have he2 := he.out
      rw [hrow, List.any_cons, List.all_cons, any_cnt, all_cnt] at he2
      clear he hrow
      by_cases hcase : c ≤ ms.length - j
      · rw [Nat.min_eq_left hcase] at he2
        have hEl : ((ms.drop j).take c).length = c := by rw [List.length_take, List.length_drop]; omega
        rw [hEl] at he2
        have HE := Lib.hid he2
        clear he2 hEl
        have hnlt : ¬ ((ms.length : Int) < (j : Int) + (c : Int)) := by omega
        go_wp2
        go_loop [7, 9] (fun n i => ∃ (i' a : Nat), j ≤ i' ∧ i' ≤ j + c ∧ i = .int .i64 i' ∧ n = .int .i64 a ∧ a + j ≤ i' ∧ Hid (a + QM.cnt p ((ms.drop i').take (j + c - i')) = QM.cnt p ((ms.drop j).take c))) (fun _ i => j + c - (intOf i).toNat)
        case atStart => exact ⟨j, 0, Nat.le_refl _, by omega, rfl, rfl, by omega, (by show _ = _; rw [Nat.add_sub_cancel_left, Nat.zero_add])⟩
        case round =>
          obtain ⟨i', a, hi1, hi2, rfl, rfl, ha, hcn⟩ := hrel
          by_cases hlt2 : i' < j + c
          · have hq2 : (i' : Int) < ((j : Int) + (c : Int)) := by omega
            have hil : i' < ms.length := by omega
            obtain ⟨b, o, hi, hb, c0, c1⟩ := atM H.out i' ms[i'] (List.getElem?_eq_getElem hil)
            have hqi : (i' : Int) < (ms.length : Int) := by omega
            have hd := Lib.hid (show (ms.drop i').take (j + c - i') = ms[i'] :: (ms.drop (i' + 1)).take (j + c - (i' + 1)) by rw [drop_get hil, show j + c - i' = (j + c - (i' + 1)) + 1 by omega, List.take_succ_cons])
            generalize ms[i'] = en at c0 c1 hd
            obtain ⟨x, n⟩ := en
            simp only at c0 c1
            have HI := Lib.hid (HX.out x)
            rw [HP.out x] at HI
            have hcn2 := hcn.out
            rw [hd.out, QM.cnt_cons] at hcn2
            simp only at hcn2
            clear hcn hd
            generalize p x = px at HI hcn2
            cases px
            · have hcn3 := Lib.hid (show a + QM.cnt p ((ms.drop (i' + 1)).take (j + c - (i' + 1))) = QM.cnt p ((ms.drop j).take c) by rw [← hcn2]; simp)
              clear hcn2
              go_wp2_with (go_at_call 23; refine HI.out.mono ?_; rintro e w2 ⟨rfl, rfl⟩)
              go_round
              case rel => exact ⟨i' + 1, a, by omega, by omega, by go_num, rfl, by omega, hcn3⟩
              case measure => simp [intOf]; omega
            · have hcn3 := Lib.hid (show (a + 1) + QM.cnt p ((ms.drop (i' + 1)).take (j + c - (i' + 1))) = QM.cnt p ((ms.drop j).take c) by rw [← hcn2]; simp; omega)
              clear hcn2
              go_wp2_with (go_at_call 23; refine HI.out.mono ?_; rintro e w2 ⟨rfl, rfl⟩)
              go_round
              case rel => exact ⟨i' + 1, a + 1, by omega, by omega, by go_num, by go_num, by omega, hcn3⟩
              case measure => simp [intOf]; omega
          · obtain rfl : i' = j + c := by omega
            have hq2 : ¬ (((j + c : Nat) : Int) < ((j : Int) + (c : Int))) := by omega
            have hcn2 := hcn.out
            rw [Nat.sub_self, List.take_zero] at hcn2
            have hae := Lib.hid (show QM.cnt p ((ms.drop j).take c) = a by rw [← hcn2]; rfl)
            clear hcn hcn2
            by_cases h0 : a = 0
            · have e2 := Lib.hid (show R = false by rw [HE.out, hae.out, h0]; simp)
              have hz : ((a : Int) == 0) = true := beq_t (by omega)
              clear HE hae h0
              go_wp2
              go_ret
              rw [e2.out]
              exact ⟨rfl, HB.out⟩
            · have e2 := Lib.hid (show R = (((wh || decide (a = c)) || (QM.rows c (ms.drop (j + c))).any fun r => r.all fun m => p m.1) && (QM.rows c (ms.drop (j + c))).all fun r => r.any fun m => p m.1) by
                rw [HE.out, hae.out, show decide (a ≠ 0) = true from decide_eq_true h0, Bool.true_and, Bool.or_assoc])
              have hz : ((a : Int) == 0) = false := beq_f (by omega)
              clear HE hae h0
              cases wh
              · rw [Bool.false_or] at e2
                by_cases haE : a = c
                · have hz2 : ((a : Int) == ((j : Int) + (c : Int)) - (j : Int)) = true := beq_t (by omega)
                  rw [decide_eq_true haE] at e2
                  clear haE
                  go_wp2
                  go_round
                  case rel => exact ⟨j + c, true, by omega, by go_num, rfl, e2⟩
                  case measure => simp [intOf]; omega
                · have hz2 : ((a : Int) == ((j : Int) + (c : Int)) - (j : Int)) = false := beq_f (by omega)
                  rw [decide_eq_false haE] at e2
                  clear haE
                  go_wp2
                  go_round
                  case rel => exact ⟨j + c, false, by omega, by go_num, rfl, e2⟩
                  case measure => simp [intOf]; omega
              · rw [Bool.true_or] at e2
                go_wp2
                go_round
                case rel => exact ⟨j + c, true, by omega, by go_num, rfl, e2⟩
                case measure => simp [intOf]; omega
      · rw [Nat.min_eq_right (by omega)] at he2
        have hEl : ((ms.drop j).take (ms.length - j)).length = (ms.length - j) := by rw [List.length_take, List.length_drop]; omega
        rw [hEl] at he2
        have HE := Lib.hid he2
        clear he2 hEl
        have hnlt : (ms.length : Int) < (j : Int) + (c : Int) := by omega
        go_wp2
        go_loop [7, 9] (fun n i => ∃ (i' a : Nat), j ≤ i' ∧ i' ≤ j + (ms.length - j) ∧ i = .int .i64 i' ∧ n = .int .i64 a ∧ a + j ≤ i' ∧ Hid (a + QM.cnt p ((ms.drop i').take (j + (ms.length - j) - i')) = QM.cnt p ((ms.drop j).take (ms.length - j)))) (fun _ i => j + (ms.length - j) - (intOf i).toNat)
        case atStart => exact ⟨j, 0, Nat.le_refl _, by omega, rfl, rfl, by omega, (by show _ = _; rw [Nat.add_sub_cancel_left, Nat.zero_add])⟩
        case round =>
          obtain ⟨i', a, hi1, hi2, rfl, rfl, ha, hcn⟩ := hrel
          by_cases hlt2 : i' < j + (ms.length - j)
          · have hq2 : (i' : Int) < (ms.length : Int) := by omega
            have hil : i' < ms.length := by omega
            obtain ⟨b, o, hi, hb, c0, c1⟩ := atM H.out i' ms[i'] (List.getElem?_eq_getElem hil)
            have hqi : (i' : Int) < (ms.length : Int) := by omega
            have hd := Lib.hid (show (ms.drop i').take (j + (ms.length - j) - i') = ms[i'] :: (ms.drop (i' + 1)).take (j + (ms.length - j) - (i' + 1)) by rw [drop_get hil, show j + (ms.length - j) - i' = (j + (ms.length - j) - (i' + 1)) + 1 by omega, List.take_succ_cons])
            generalize ms[i'] = en at c0 c1 hd
            obtain ⟨x, n⟩ := en
            simp only at c0 c1
            have HI := Lib.hid (HX.out x)
            rw [HP.out x] at HI
            have hcn2 := hcn.out
            rw [hd.out, QM.cnt_cons] at hcn2
            simp only at hcn2
            clear hcn hd
            generalize p x = px at HI hcn2
            cases px
            · have hcn3 := Lib.hid (show a + QM.cnt p ((ms.drop (i' + 1)).take (j + (ms.length - j) - (i' + 1))) = QM.cnt p ((ms.drop j).take (ms.length - j)) by rw [← hcn2]; simp)
              clear hcn2
              go_wp2_with (go_at_call 23; refine HI.out.mono ?_; rintro e w2 ⟨rfl, rfl⟩)
              go_round
              case rel => exact ⟨i' + 1, a, by omega, by omega, by go_num, rfl, by omega, hcn3⟩
              case measure => simp [intOf]; omega
            · have hcn3 := Lib.hid (show (a + 1) + QM.cnt p ((ms.drop (i' + 1)).take (j + (ms.length - j) - (i' + 1))) = QM.cnt p ((ms.drop j).take (ms.length - j)) by rw [← hcn2]; simp; omega)
              clear hcn2
              go_wp2_with (go_at_call 23; refine HI.out.mono ?_; rintro e w2 ⟨rfl, rfl⟩)
              go_round
              case rel => exact ⟨i' + 1, a + 1, by omega, by omega, by go_num, by go_num, by omega, hcn3⟩
              case measure => simp [intOf]; omega
          · obtain rfl : i' = j + (ms.length - j) := by omega
            have hq2 : ¬ (((j + (ms.length - j) : Nat) : Int) < (ms.length : Int)) := by omega
            have hcn2 := hcn.out
            rw [Nat.sub_self, List.take_zero] at hcn2
            have hae := Lib.hid (show QM.cnt p ((ms.drop j).take (ms.length - j)) = a by rw [← hcn2]; rfl)
            clear hcn hcn2
            by_cases h0 : a = 0
            · have e2 := Lib.hid (show R = false by rw [HE.out, hae.out, h0]; simp)
              have hz : ((a : Int) == 0) = true := beq_t (by omega)
              clear HE hae h0
              go_wp2
              go_ret
              rw [e2.out]
              exact ⟨rfl, HB.out⟩
            · have e2 := Lib.hid (show R = (((wh || decide (a = (ms.length - j))) || (QM.rows c (ms.drop (j + c))).any fun r => r.all fun m => p m.1) && (QM.rows c (ms.drop (j + c))).all fun r => r.any fun m => p m.1) by
                rw [HE.out, hae.out, show decide (a ≠ 0) = true from decide_eq_true h0, Bool.true_and, Bool.or_assoc])
              have hz : ((a : Int) == 0) = false := beq_f (by omega)
              clear HE hae h0
              cases wh
              · rw [Bool.false_or] at e2
                by_cases haE : a = (ms.length - j)
                · have hz2 : ((a : Int) == (ms.length : Int) - (j : Int)) = true := beq_t (by omega)
                  rw [decide_eq_true haE] at e2
                  clear haE
                  go_wp2
                  go_round
                  case rel => exact ⟨j + c, true, by omega, by go_num, rfl, e2⟩
                  case measure => simp [intOf]; omega
                · have hz2 : ((a : Int) == (ms.length : Int) - (j : Int)) = false := beq_f (by omega)
                  rw [decide_eq_false haE] at e2
                  clear haE
                  go_wp2
                  go_round
                  case rel => exact ⟨j + c, false, by omega, by go_num, rfl, e2⟩
                  case measure => simp [intOf]; omega
              · rw [Bool.true_or] at e2
                go_wp2
                go_round
                case rel => exact ⟨j + c, true, by omega, by go_num, rfl, e2⟩
                case measure => simp [intOf]; omega
    · have hq : ¬ ((j : Int) < (ms.length : Int)) := by omega
      have e2 := Lib.hid (show R = wh by rw [he.out, List.drop_of_length_le (by omega)]; simp [QM.rows_nil])
      clear he
      go_wp2
      go_ret
      rw [e2.out]
      exact ⟨rfl, HB.out⟩

set_option maxRecDepth 100000 in
set_option maxHeartbeats 4000000 in
theorem rIsQuorum (sv xv : Value) (k c f : Int) (ms : List Mem) (xs : List Int) (w : World) (hr : RdM w sv ms) (hx : RdI w xv xs) (he : QM.errV k c f ms = 0) :
    Calls Try.prog 19 #[vw sv k c f, xv] w fun e w' => e = .returned (.bool (QM.isQ k c f ms fun x => decide (x ∈ xs))) ∧ Below w.heap.size w w' := by
  obtain ⟨her, hval⟩ := QM.errV_zero.1 he
  have hlen := hval.length (Int.le_refl 0) (by decide)
  have hv := VBox.fresh w sv k c f
  have hB := below_fresh w (.cells #[sv, .int .i64 k, .int .i64 c, .int .i64 f] 26)
  have h0 := hr.below hB
  have x0 := hx.below hB
  obtain ⟨ad, cp, rfl, hcp, hl⟩ := hr.shape
  have H := Lib.hid h0
  have HX := Lib.hid (fun x => rIn xv xs x _ x0)
  have HG := Lib.hid (fun w (h : RdM w (.slice ad ms.length cp) ms) (hx : RdI w xv xs) (hc : 1 ≤ c) (hc2 : c ≤ 12) => rGrid (.slice ad ms.length cp) xv k f c.toNat ms xs w h hx hval (by omega) (by omega))
  have HR0 := Lib.hid x0
  have HB := Lib.hid hB
  have HL := Lib.hid hval
  have HER := Lib.hid her
  have hnil : ms = [] → QM.isQ k c f ms (fun x => decide (x ∈ xs)) = false := fun h => by rw [h]; exact QM.isQ_nil her _
  obtain ⟨p, hp⟩ : ∃ p : Int → Bool, p = fun x => decide (x ∈ xs) := ⟨_, rfl⟩
  have hpx : ∀ x, decide (x ∈ xs) = p x := fun x => by rw [hp]
  have HP := Lib.hid hpx
  rw [← hp] at HG hnil ⊢
  obtain ⟨R, hR⟩ : ∃ R, R = QM.isQ k c f ms p := ⟨_, rfl⟩
  rw [← hR] at hnil ⊢
  have HR := Lib.hid hR
  have HN := Lib.hid hnil
  clear h0 x0 hB hr hx hval hp hpx hR hnil her he
  generalize hw0 : w.alloc (.cells #[.slice ad ms.length cp, .int .i64 k, .int .i64 c, .int .i64 f] 26) = w0 at H HX HB hv HR0
  obtain ⟨v0, v1, v2, v3, v4⟩ := hv
  have HW0 := Lib.hid hw0
  clear hw0
  go_enter Try.func19, Try.ntmps19
  go_wp2
  rw [HW0.out]
  go_loop [6, 7, 8, 9] (fun n al ha i => ∃ (j a : Nat) (b z : Int), j ≤ ms.length ∧ i = .int .i64 j ∧ n = .int .i64 a ∧ al = .int .i64 b ∧ ha = .int .i64 z ∧ a ≤ j ∧ 0 ≤ b ∧ b ≤ 9 * (j : Int) ∧ 0 ≤ z ∧ z ≤ 9 * (j : Int) ∧
      Hid (a + QM.cnt p (ms.drop j) = QM.cnt p ms) ∧ Hid (b + QM.wt (fun _ => true) (ms.drop j) = QM.wt (fun _ => true) ms) ∧ Hid (z + QM.wt p (ms.drop j) = QM.wt p ms)) (fun _ _ _ i => ms.length - (intOf i).toNat)
  case atStart => exact ⟨0, 0, 0, 0, Nat.zero_le _, rfl, rfl, rfl, rfl, Nat.le_refl _, by omega, by omega, by omega, by omega, (by show _ = _; simp), (by show _ = _; simp), (by show _ = _; simp)⟩
  case round =>
    obtain ⟨j, a, b, z, hj, rfl, rfl, rfl, rfl, ha, hb0, hb1, hz0, hz1, e1, e2, e3⟩ := hrel
    by_cases hlt : j < ms.length
    · obtain ⟨b', o, hi, hb, c0, c1⟩ := atM H.out j ms[j] (List.getElem?_eq_getElem hlt)
      have hq : (j : Int) < (ms.length : Int) := by omega
      have hd := Lib.hid (drop_get hlt)
      have hm := HL.out.mem ms[j] (List.getElem_mem hlt)
      generalize ms[j] = en at c0 c1 hd hm
      obtain ⟨x, n⟩ := en
      simp only at c0 c1 hm
      obtain ⟨_, hx1, hx2, hn1, hn2⟩ := hm
      have HI := Lib.hid (HX.out x)
      rw [HP.out x] at HI
      have g1 := e1.out
      have g2 := e2.out
      have g3 := e3.out
      rw [hd.out, QM.cnt_cons] at g1
      rw [hd.out, wt_cons] at g2 g3
      simp only at g1 g2 g3
      clear e1 e2 e3 hd
      have G2 := Lib.hid (show b + n + QM.wt (fun _ => true) (ms.drop (j + 1)) = QM.wt (fun _ => true) ms by rw [if_pos trivial] at g2; omega)
      clear g2
      generalize p x = px at HI g1 g3
      cases px
      · have G1 := Lib.hid (show a + QM.cnt p (ms.drop (j + 1)) = QM.cnt p ms by rw [← g1]; simp)
        have G3 := Lib.hid (show z + QM.wt p (ms.drop (j + 1)) = QM.wt p ms by rw [← g3]; simp)
        clear g1 g3
        go_wp2_with (go_at_call 23; refine HI.out.mono ?_; rintro e w2 ⟨rfl, rfl⟩)
        go_round
        case rel => exact ⟨j + 1, a, b + n, z, by omega, by go_num, rfl, rfl, rfl, by omega, by omega, by omega, by omega, by omega, G1, G2, G3⟩
        case measure => simp [intOf]; omega
      · have G1 := Lib.hid (show (a + 1) + QM.cnt p (ms.drop (j + 1)) = QM.cnt p ms by rw [← g1]; simp; omega)
        have G3 := Lib.hid (show z + n + QM.wt p (ms.drop (j + 1)) = QM.wt p ms by rw [← g3]; simp; omega)
        clear g1 g3
        go_wp2_with (go_at_call 23; refine HI.out.mono ?_; rintro e w2 ⟨rfl, rfl⟩)
        go_round
        case rel => exact ⟨j + 1, a + 1, b + n, z + n, by omega, by go_num, by go_num, rfl, rfl, by omega, by omega, by omega, by omega, by omega, G1, G2, G3⟩
        case measure => simp [intOf]; omega
    · have hq : ¬ ((j : Int) < (ms.length : Int)) := by omega
      obtain rfl : j = ms.length := by omega
      have g1 := Lib.hid (show QM.cnt p ms = a by have := e1.out; rw [List.drop_length] at this; rw [← this]; simp [QM.cnt])
      have g2 := Lib.hid (show QM.wt (fun _ => true) ms = b by have := e2.out; rw [List.drop_length] at this; rw [← this]; simp [QM.wt])
      have g3 := Lib.hid (show QM.wt p ms = z by have := e3.out; rw [List.drop_length] at this; rw [← this]; simp [QM.wt])
      clear e1 e2 e3
      by_cases hn0 : ms.length = 0
      · have e2 := Lib.hid (HN.out (List.eq_nil_of_length_eq_zero hn0))
        have hz : ((ms.length : Int) == 0) = true := beq_t (by omega)
        clear HR g1 g2 g3 hn0
        go_wp2
        go_ret
        rw [e2.out]
        exact ⟨rfl, HB.out⟩
      · have hz : ((ms.length : Int) == 0) = false := beq_f (by omega)
        have her := HER.out
        rcases QM.errR_zero her with ⟨rfl, rfl, rfl⟩ | ⟨rfl, rfl, rfl⟩ | ⟨rfl, hc1, hc2, rfl⟩ | ⟨rfl, rfl, hf0, hf1⟩
        · have e2 := Lib.hid (show R = decide (ms.length < 2 * a) by rw [HR.out, ← g1.out]; rfl)
          clear her HER HR g1 g2 g3 hn0
          go_wp2
          go_ret
          refine ⟨ret_bool ?_, HB.out⟩
          rw [e2.out, decide_eq_decide]
          omega
        · have e2 := Lib.hid (show R = decide (b < 2 * z) by rw [HR.out, ← g2.out, ← g3.out]; rfl)
          clear her HER HR g1 g2 g3 hn0
          go_wp2
          go_ret
          refine ⟨ret_bool ?_, HB.out⟩
          rw [e2.out]
        · have e2 := Lib.hid (show R = QM.grid c.toNat p ms from HR.out)
          have hg := HG.out w0 H.out HR0.out hc1 hc2
          rw [show ((c.toNat : Nat) : Int) = c by omega] at hg
          have HG2 := Lib.hid hg
          clear her HER HR g1 g2 g3 hn0 hg HG
          go_wp2_with fail
          refine HG2.out.mono ?_
          rintro e w2 ⟨rfl, hb2⟩
          clear HG2
          go_wp2
          go_ret
          rw [e2.out]
          exact ⟨rfl, bnext HB.out hb2⟩
        · have e2 := Lib.hid (show R = decide (((ms.length : Int) + f + 2) / 2 ≤ (a : Int)) by rw [HR.out, ← g1.out]; rfl)
          clear her HER HR g1 g2 g3 hn0
          go_wp2
          go_ret
          refine ⟨ret_bool ?_, HB.out⟩
          rw [e2.out]

set_option maxRecDepth 100000 in
set_option maxHeartbeats 1000000 in
theorem rSmall (sv : Value) (k c f n : Int) (ms : List Mem) (w : World) (hr : RdM w sv ms) :
    Calls Try.prog 17 #[vw sv k c f, .int .i64 n] w fun e w' => e = .returned (.bool (decide ((ms.length : Int) ≤ n) && decide (QM.errV k c f ms = 0))) ∧ Below w.heap.size w w' := by
  have hB := below_fresh w (.cells #[sv, .int .i64 k, .int .i64 c, .int .i64 f] 26)
  have h0 := hr.below hB
  obtain ⟨ad, cp, rfl, hcp, hl⟩ := hr.shape
  have HC := Lib.hid (rValidate (.slice ad ms.length cp) k c f ms _ h0)
  have HB := Lib.hid hB
  clear h0 hB hr
  generalize QM.errV k c f ms = er at HC ⊢
  by_cases hn : (ms.length : Int) ≤ n
  · rw [decide_eq_true hn, Bool.true_and]
    by_cases he : er = 0
    · rw [decide_eq_true he]
      have hz : (er == 0) = true := beq_t he
      clear he
      go_enter Try.func17, Try.ntmps17
      go_wp2_with fail
      refine HC.out.mono ?_
      rintro e w1 ⟨rfl, hb1⟩
      go_wp2
      go_ret
      exact ⟨rfl, bnext HB.out hb1⟩
    · rw [decide_eq_false he]
      have hz : (er == 0) = false := beq_f he
      clear he
      go_enter Try.func17, Try.ntmps17
      go_wp2_with fail
      refine HC.out.mono ?_
      rintro e w1 ⟨rfl, hb1⟩
      go_wp2
      go_ret
      exact ⟨rfl, bnext HB.out hb1⟩
  · rw [decide_eq_false hn, Bool.false_and]
    have hd : decide ((ms.length : Int) ≤ n) = false := decide_eq_false hn
    clear HC
    go_enter Try.func17, Try.ntmps17
    go_wp2
    go_ret
    exact ⟨rfl, HB.out⟩

end Go.Proofs.Ytbbgjckiooejhaa
