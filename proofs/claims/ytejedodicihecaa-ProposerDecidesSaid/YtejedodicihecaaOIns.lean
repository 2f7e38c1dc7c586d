/-
  The calls of the reference's Insert and EqualInts: an ascending list with a number put in; whether two lists are the same. Conditions: what comes in reads; short lists.
-/
import Derived.Lib.SmallJoins
import Derived.Test.YtejedodicihecaaOBase
namespace Go.Proofs.Ytejedodicihecaa
open Go.RowKit Go.Joins

/-- What Insert builds. -/
def insF (n : Int) : Bool → List Int → List Int
  | put, [] => if put then [] else [n]
  | put, y :: l => (if (!put && decide (n ≤ y)) = true then [n] else []) ++ ((if y = n then [] else [y]) ++ insF n (put || decide (n ≤ y)) l)
theorem insF_true {n : Int} {l : List Int} (h : ∀ y ∈ l, n < y) : insF n true l = l := by
  induction l with
  | nil => rfl
  | cons y l ih =>
    have := h y (by simp)
    rw [insF, Bool.true_or, ih (fun z hz => h z (by simp [hz])), if_neg (by simp), if_neg (by omega)]
    rfl
theorem insF_srt {n : Int} {l : List Int} (h : l.Pairwise (· < ·)) : insF n false l = PM.ins n l := by
  induction l with
  | nil => rfl
  | cons y l ih =>
    obtain ⟨a1, a2⟩ := List.pairwise_cons.1 h
    rw [insF, PM.ins]
    by_cases h1 : y = n
    · subst h1
      rw [if_pos rfl, if_pos rfl, if_pos (by simp), Bool.false_or, decide_eq_true (Int.le_refl _), show insF y true l = l from insF_true (fun z hz => a1 z hz)]
      rfl
    · rw [if_neg h1, if_neg h1]
      by_cases h2 : n < y
      · rw [if_pos h2, if_pos (by simp; omega), Bool.false_or, decide_eq_true (by omega), insF_true (fun z hz => by have := a1 z hz; omega)]
        rfl
      · rw [if_neg h2, if_neg (by simp; omega), Bool.false_or, decide_eq_false (by omega), ih a2]
        rfl

set_option maxRecDepth 100000 in
set_option maxHeartbeats 4000000 in
theorem rInsert (v : Value) (l : List Int) (n : Int) (w : World) (h : RdI w v l) (hl : l.length ≤ 1000000) :
    Calls Try.prog 24 #[v, .int .i64 n] w fun e w' => ∃ v', e = .returned v' ∧ OwnI w.heap.size w' v' (insF n false l) ∧ Below w.heap.size w w' := by
  obtain ⟨ad, c, rfl, hc, hlc⟩ := h.shape
  have H := Lib.hid h
  have HL := Lib.hid hl
  clear h hl
  obtain ⟨R, hR⟩ : ∃ R, R = insF n false l := ⟨_, rfl⟩
  rw [← hR]
  have HR := Lib.hid (show R = [] ++ insF n false (l.drop 0) from hR)
  have HI0 := Lib.hid (show OwnI w.heap.size w (.slice none 0 0) [] from OwnG.nil hlI _ _ _)
  clear hR
  go_enter Try.func24, Try.ntmps24
  go_wp2
  go_loopw [5, 6, 7] (fun o p i wr => ∃ (j : Nat) (put : Bool) (ys : List Int), j ≤ l.length ∧ i = .int .i64 j ∧ p = .bool put ∧ Hid (OwnI w.heap.size wr o ys) ∧ Hid (Below w.heap.size w wr) ∧ Hid (ys.length ≤ 2 * j) ∧ Hid (R = ys ++ insF n put (l.drop j))) (fun _ _ i _ => l.length - (intOf i).toNat)
  case atStart => exact ⟨0, false, [], Nat.zero_le _, rfl, rfl, HI0, Lib.hid (Below.refl _ _), Lib.hid (Nat.le_refl _), HR⟩
  case round =>
    obtain ⟨j, put, ys, hj, rfl, rfl, ho, hb, hyl, he⟩ := hrel
    clear HR HI0
    obtain ⟨a5, l5, c5, hv5⟩ : ∃ a l c, u5 = .slice a l c := by obtain ⟨a, c, h, _⟩ := ho.out.rd.shape; exact ⟨a, _, c, h⟩
    subst hv5
    have hsz := hb.out.size
    have hyb : ys.length ≤ 1073741824 := by have h1 := hyl.out; have h2 := HL.out; omega
    by_cases hlt : j < l.length
    · obtain ⟨b, o, hi, hbb, c0⟩ := atI (H.out.below hb.out) j l[j] (List.getElem?_eq_getElem hlt)
      have hq : (j : Int) < (l.length : Int) := by omega
      have hd := Lib.hid (drop_get hlt)
      generalize l[j] = y at c0 hd
      have HC0 := Lib.hid (fun w' (hb' : Below wr.heap.size wr w') => below_cell hb' c0)
      have HG := Lib.hid (show l[j]? = some y by have h1 := hd.out; rw [List.drop_eq_getElem_cons hlt] at h1; rw [List.getElem?_eq_getElem hlt]; exact congrArg some (List.cons.inj h1).1)
      clear HC0
      cases put
      · by_cases h1 : n ≤ y
        · by_cases h2 : y = n
          · have e2 := Lib.hid (show R = (ys ++ [n]) ++ insF n true (l.drop (j + 1)) by rw [he.out, hd.out, insF, if_pos (by simp [h1]), if_pos h2, Bool.false_or, decide_eq_true h1]; simp)
            have hyn : (y != n) = false := bneF h2
            clear h2
            clear he
            go_wp2_with (at_builtin; refine wp_appG1 intE n rfl _ _ rfl rfl ho.out rfl hyb hsz ?_)
            intro v1 w1 ho1 hb1 _ _
            obtain ⟨a1, l1, c1, hv1⟩ : ∃ a l c, v1 = .slice a l c := by obtain ⟨a, c, h, _⟩ := ho1.rd.shape; exact ⟨a, _, c, h⟩
            subst hv1
            have HO1 := Lib.hid ho1
            have HB1 := Lib.hid (hb.out.trans hb1)
            have c1 := atI_cell (H.out.below HB1.out) j y HG.out hi
            clear ho1 hb1
            go_wp2
            go_roundw
            case rel => exact ⟨j + 1, true, (ys ++ [n]), by omega, by go_num, rfl, HO1, HB1, Lib.hid (by have := hyl.out; simp; omega), e2⟩
            case measure => simp [intOf]; omega
          · have e2 := Lib.hid (show R = (ys ++ [n, y]) ++ insF n true (l.drop (j + 1)) by rw [he.out, hd.out, insF, if_pos (by simp [h1]), if_neg h2, Bool.false_or, decide_eq_true h1]; simp)
            have hyn : (y != n) = true := bneT h2
            clear h2
            clear he
            go_wp2_with (at_builtin; refine wp_appG1 intE n rfl _ _ rfl rfl ho.out rfl hyb hsz ?_)
            intro v1 w1 ho1 hb1 _ _
            obtain ⟨a1, l1, c1, hv1⟩ : ∃ a l c, v1 = .slice a l c := by obtain ⟨a, c, h, _⟩ := ho1.rd.shape; exact ⟨a, _, c, h⟩
            subst hv1
            have HO1 := Lib.hid ho1
            have HB1 := Lib.hid (hb.out.trans hb1)
            have c1 := atI_cell (H.out.below HB1.out) j y HG.out hi
            clear ho1 hb1
            have hsz1 := HB1.out.size
            have hyb1 : (ys ++ [n]).length ≤ 1073741824 := by have h1 := hyl.out; have h2 := HL.out; simp; omega
            go_wp2_with (at_builtin; refine wp_appG1 intE y rfl _ _ rfl rfl HO1.out rfl hyb1 hsz1 ?_)
            intro v2 w2 ho2 hb2 _ _
            obtain ⟨a2, l2, c2, hv2⟩ : ∃ a l c, v2 = .slice a l c := by obtain ⟨a, c, h, _⟩ := ho2.rd.shape; exact ⟨a, _, c, h⟩
            subst hv2
            have HO2 := Lib.hid (show OwnI w.heap.size w2 (.slice a2 l2 c2) (ys ++ [n, y]) by simpa using ho2)
            have HB2 := Lib.hid (HB1.out.trans hb2)
            clear ho2 hb2
            go_wp2
            go_roundw
            case rel => exact ⟨j + 1, true, ys ++ [n, y], by omega, by go_num, rfl, HO2, HB2, Lib.hid (by have := hyl.out; simp; omega), e2⟩
            case measure => simp [intOf]; omega
        · have e2 := Lib.hid (show R = (ys ++ [y]) ++ insF n false (l.drop (j + 1)) by rw [he.out, hd.out, insF, if_neg (by simp [h1]), if_neg (by omega), Bool.false_or, decide_eq_false h1]; simp)
          have hyn : (y != n) = true := bneT (by omega)
          have h1' : y < n := by omega
          have hdn : decide (n ≤ y) = false := decide_eq_false h1
          clear h1
          clear he
          go_wp2_with (at_builtin; refine wp_appG1 intE y rfl _ _ rfl rfl ho.out rfl hyb hsz ?_)
          intro v1 w1 ho1 hb1 _ _
          obtain ⟨a1, l1, c1, hv1⟩ : ∃ a l c, v1 = .slice a l c := by obtain ⟨a, c, h, _⟩ := ho1.rd.shape; exact ⟨a, _, c, h⟩
          subst hv1
          have HO1 := Lib.hid ho1
          have HB1 := Lib.hid (hb.out.trans hb1)
          clear ho1 hb1
          go_wp2
          go_roundw
          case rel => exact ⟨j + 1, false, (ys ++ [y]), by omega, by go_num, rfl, HO1, HB1, Lib.hid (by have := hyl.out; simp; omega), e2⟩
          case measure => simp [intOf]; omega
      · by_cases h2 : y = n
        · have e2 := Lib.hid (show R = ys ++ insF n true (l.drop (j + 1)) by rw [he.out, hd.out, insF, if_neg (by simp), if_pos h2, Bool.true_or]; simp)
          have hyn : (y != n) = false := bneF h2
          clear h2
          clear he
          go_wp2
          go_roundw
          case rel => exact ⟨j + 1, true, ys, by omega, by go_num, rfl, ho, hb, Lib.hid (by have := hyl.out; omega), e2⟩
          case measure => simp [intOf]; omega
        · have e2 := Lib.hid (show R = (ys ++ [y]) ++ insF n true (l.drop (j + 1)) by rw [he.out, hd.out, insF, if_neg (by simp), if_neg h2, Bool.true_or]; simp)
          have hyn : (y != n) = true := bneT h2
          clear h2
          clear he
          go_wp2_with (at_builtin; refine wp_appG1 intE y rfl _ _ rfl rfl ho.out rfl hyb hsz ?_)
          intro v1 w1 ho1 hb1 _ _
          obtain ⟨a1, l1, c1, hv1⟩ : ∃ a l c, v1 = .slice a l c := by obtain ⟨a, c, h, _⟩ := ho1.rd.shape; exact ⟨a, _, c, h⟩
          subst hv1
          have HO1 := Lib.hid ho1
          have HB1 := Lib.hid (hb.out.trans hb1)
          clear ho1 hb1
          go_wp2
          go_roundw
          case rel => exact ⟨j + 1, true, (ys ++ [y]), by omega, by go_num, rfl, HO1, HB1, Lib.hid (by have := hyl.out; simp; omega), e2⟩
          case measure => simp [intOf]; omega
    · have hq : ¬ ((j : Int) < (l.length : Int)) := by omega
      cases put
      · have e2 := Lib.hid (show R = ys ++ [n] by rw [he.out, List.drop_of_length_le (by omega)]; rfl)
        clear he
        go_wp2_with (at_builtin; refine wp_appG1 intE n rfl _ _ rfl rfl ho.out rfl hyb hsz ?_)
        intro v1 w1 ho1 hb1 _ _
        have HO1 := Lib.hid ho1
        have HB1 := Lib.hid (hb.out.trans hb1)
        clear ho1 hb1
        go_wp2
        go_ret
        exact ⟨_, rfl, by rw [e2.out]; exact HO1.out, HB1.out⟩
      · have e2 := Lib.hid (show R = ys by rw [he.out, List.drop_of_length_le (by omega)]; show ys ++ [] = ys; simp)
        clear he
        go_wp2
        go_ret
        exact ⟨_, rfl, by rw [e2.out]; exact ho.out, hb.out⟩



set_option maxRecDepth 100000 in
set_option maxHeartbeats 1000000 in
theorem rEqInts (va vb : Value) (xs ys : List Int) (w : World) (ha : RdI w va xs) (hb : RdI w vb ys) :
    Calls Try.prog 18 #[va, vb] w fun e w' => e = .returned (.bool (decide (xs = ys))) ∧ Below w.heap.size w w' := by
  obtain ⟨ad, c, rfl, hc, hl⟩ := ha.shape
  obtain ⟨bd, d, rfl, hd, hld⟩ := hb.shape
  have HA := Lib.hid ha
  have HB := Lib.hid hb
  clear ha hb
  by_cases hlen : xs.length = ys.length
  · obtain ⟨R, hR⟩ : ∃ R, R = decide (xs = ys) := ⟨_, rfl⟩
    rw [← hR]
    have HR := Lib.hid hR
    clear hR
    have HL := Lib.hid hlen
    have hq0 : ((xs.length : Int) != (ys.length : Int)) = false := by simp; omega
    rw [← hlen] at hq0 ⊢
    clear hlen
    go_enter Try.func18, Try.ntmps18
    go_wp2
    go_loopw [5] (fun i wr => ∃ k : Nat, k ≤ xs.length ∧ i = .int .i64 k ∧ Below w.heap.size w wr ∧ Hid (R = decide (xs.drop k = ys.drop k))) (fun i _ => xs.length - (intOf i).toNat)
    case atStart => exact ⟨0, Nat.zero_le _, rfl, Below.refl _ _, HR.out⟩
    case round =>
      obtain ⟨k, hk, rfl, hbl, he⟩ := hrel
      by_cases hlt : k < xs.length
      · have hlt2 : k < ys.length := by rw [← HL.out]; exact hlt
        have hatx := List.getElem?_eq_getElem hlt
        have haty := List.getElem?_eq_getElem hlt2
        have hdx := Lib.hid (drop_get hlt)
        have hdy := Lib.hid (drop_get hlt2)
        generalize xs[k] = y at hdx hatx
        generalize ys[k] = z at hdy haty
        obtain ⟨b, o, hi, hb, d0⟩ := atI (HA.out.below hbl) k _ hatx
        obtain ⟨bb, oo, hi2, hb2, f0⟩ := atI (HB.out.below hbl) k _ haty
        rw [← HL.out] at hi2
        have hq : (k : Int) < (xs.length : Int) := by omega
        clear HR hatx haty
        have hBB : ∃ B, B = decide (y = z) := ⟨_, rfl⟩
        obtain ⟨B, hB⟩ := hBB
        have hneq : (y != z) = !B := by rw [hB]; rfl
        have e0 := Lib.hid (show R = (B && decide (xs.drop (k + 1) = ys.drop (k + 1))) by
          rw [he.out, hdx.out, hdy.out, hB]
          rw [← Bool.decide_and]
          exact decide_eq_decide.2 List.cons_eq_cons)
        clear he hdx hdy hB
        cases B
        · have e2 := Lib.hid (e0.out.trans (Bool.false_and _))
          clear e0
          go_wp2
          go_quiet (fail)
          go_wp2
          go_ret
          rw [e2.out]
          exact ⟨rfl, hbl.trans (below_drewN _ _ _)⟩
        · have e2 := Lib.hid (e0.out.trans (Bool.true_and _))
          clear e0
          go_wp2
          go_quiet (fail)
          go_wp2
          go_roundw
          case rel => exact ⟨k + 1, by omega, by go_num, hbl.trans (below_drewN _ _ _), e2⟩
          case measure => simp [intOf]; omega
      · have hq : ¬ ((k : Int) < (xs.length : Int)) := by omega
        have e2 := Lib.hid (show R = true by rw [he.out, List.drop_of_length_le (by omega), List.drop_of_length_le (by rw [← HL.out]; omega)]; rfl)
        clear he HR
        go_wp2
        go_ret
        rw [e2.out]
        exact ⟨rfl, hbl⟩
  · have e2 := Lib.hid (show decide (xs = ys) = false from decide_eq_false fun h => hlen (by rw [h]))
    have hq0 : ((xs.length : Int) != (ys.length : Int)) = true := by simp; omega
    clear hlen HA HB
    go_enter Try.func18, Try.ntmps18
    go_wp2
    go_ret
    rw [e2.out]
    exact ⟨rfl, Below.refl _ _⟩



end Go.Proofs.Ytejedodicihecaa
