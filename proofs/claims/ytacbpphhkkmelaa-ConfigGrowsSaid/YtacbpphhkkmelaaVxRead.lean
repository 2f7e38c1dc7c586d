/-
  The calls of the reference's Count, LessEqual, EqualVector, Size, ValidateVector, and of vector.Size, vector.Validate: each returns what the plain mathematics says. Conditions: the arguments read as vectors, within the bounds that are named.
-/
import Derived.Deep.QuietTactic
import Derived.Laws.StructEq
import Derived.Test.YtacbpphhkkmelaaVxVec
namespace Go.Proofs.Ytacbpphhkkmelaa.VX
open Go.RowKit
open VM (Ent)

theorem drop_get {xs : List Ent} {k : Nat} (h : k < xs.length) : xs.drop k = xs[k] :: xs.drop (k + 1) := List.drop_eq_getElem_cons h

set_option maxRecDepth 100000 in
set_option maxHeartbeats 1000000 in
theorem rCount (v : Value) (xs : List Ent) (a : Int) (w : World) (h : RdV w v xs) :
    Calls Try.prog 51 #[v, .int .i64 a] w fun e w' => e = .returned (.int .i64 (VM.cnt xs a)) ∧ w = w' := by
  obtain ⟨ad, c, rfl, hc, hl⟩ := h.shape
  have H := Lib.hid h
  clear h
  obtain ⟨R, hR⟩ : ∃ R, R = VM.cnt xs a := ⟨_, rfl⟩
  rw [← hR]
  have HR := Lib.hid hR
  clear hR
  go_enter Try.func51, Try.ntmps51
  go_wp2
  go_loop [5] (fun i => ∃ k : Nat, k ≤ xs.length ∧ i = .int .i64 k ∧ Hid (R = VM.cnt (xs.drop k) a)) (fun i => xs.length - (intOf i).toNat)
  case atStart => exact ⟨0, Nat.zero_le _, rfl, HR.out⟩
  case round =>
    obtain ⟨k, hk, rfl, he⟩ := hrel
    by_cases hlt : k < xs.length
    · obtain ⟨b, o, hi, hb, c0, c1⟩ := H.out.at k xs[k] (List.getElem?_eq_getElem hlt)
      have hq : (k : Int) < (xs.length : Int) := by omega
      have hd := Lib.hid (drop_get hlt)
      generalize xs[k] = en at c0 c1 hd
      obtain ⟨x, n⟩ := en
      simp only at c0 c1
      clear HR
      by_cases hx : x = a
      · have e2 := Lib.hid (show R = n by rw [he.out, hd.out, VM.cnt_cons, if_pos hx])
        subst hx
        clear he hd
        go_wp2
        go_ret
        rw [e2.out]
        exact ⟨rfl, rfl⟩
      · have e2 := Lib.hid (show R = VM.cnt (xs.drop (k + 1)) a by rw [he.out, hd.out, VM.cnt_cons, if_neg hx])
        have hx' : (x == a) = false := by simpa using hx
        clear he hd hx
        go_wp2
        go_round
        case rel => exact ⟨k + 1, by omega, by go_num, e2⟩
        case measure => simp [intOf]; omega
    · have hq : ¬ ((k : Int) < (xs.length : Int)) := by omega
      have e2 := Lib.hid (show R = 0 by rw [he.out, List.drop_of_length_le (by omega)]; rfl)
      clear he HR
      go_wp2
      go_ret
      rw [e2.out]
      exact ⟨rfl, rfl⟩

/-- A quiet call's contract, at a world that has drawn. -/
theorem rCountQ {v : Value} {xs : List Ent} (a : Int) {w : World} (h : RdV w v xs) (n : Nat) :
    Calls Try.prog 51 #[v, .int .i64 a] (w.drewN n) fun e w' => e = .returned (.int .i64 (VM.cnt xs a)) ∧ ∃ m, w' = w.drewN m := by
  refine (rCount v xs a _ (rdV_drewN h n)).mono ?_
  rintro e w1 ⟨rfl, rfl⟩
  exact ⟨rfl, n, rfl⟩

theorem le_cons (e : Ent) (v b : List Ent) : VM.le (e :: v) b = (decide (e.2 ≤ VM.cnt b e.1) && VM.le v b) := rfl

set_option maxRecDepth 100000 in
set_option maxHeartbeats 1000000 in
theorem rLessEqual (va vb : Value) (xs ys : List Ent) (w : World) (ha : RdV w va xs) (hb : RdV w vb ys) :
    Calls Try.prog 32 #[va, vb] w fun e w' => e = .returned (.bool (VM.le xs ys)) ∧ Below w.heap.size w w' := by
  obtain ⟨ad, c, rfl, hc, hl⟩ := ha.shape
  have HA := Lib.hid ha
  have HB := Lib.hid hb
  clear ha hb
  obtain ⟨R, hR⟩ : ∃ R, R = VM.le xs ys := ⟨_, rfl⟩
  rw [← hR]
  have HR := Lib.hid hR
  clear hR
  go_enter Try.func32, Try.ntmps32
  go_wp2
  go_loopw [5] (fun i wr => ∃ k : Nat, k ≤ xs.length ∧ i = .int .i64 k ∧ Below w.heap.size w wr ∧ Hid (R = VM.le (xs.drop k) ys)) (fun i _ => xs.length - (intOf i).toNat)
  case atStart => exact ⟨0, Nat.zero_le _, rfl, Below.refl _ _, HR.out⟩
  case round =>
    obtain ⟨k, hk, rfl, hbl, he⟩ := hrel
    by_cases hlt : k < xs.length
    · obtain ⟨b, o, hi, hb, c0, c1⟩ := (HA.out.below hbl).at k xs[k] (List.getElem?_eq_getElem hlt)
      have hq : (k : Int) < (xs.length : Int) := by omega
      have hd := Lib.hid (drop_get hlt)
      have HBr := Lib.hid (HB.out.below hbl)
      generalize xs[k] = en at c0 c1 hd
      obtain ⟨x, n⟩ := en
      simp only at c0 c1
      clear HR
      by_cases hx : n ≤ VM.cnt ys x
      · have e2 := Lib.hid (show R = VM.le (xs.drop (k + 1)) ys by rw [he.out, hd.out, le_cons, decide_eq_true hx]; rfl)
        have hx' : ¬ VM.cnt ys x < n := by omega
        clear he hd
        go_wp2
        go_quiet ((go_at_call 51; exact rCountQ x HBr.out _))
        go_wp2
        go_roundw
        case rel => exact ⟨k + 1, by omega, by go_num, hbl.trans (below_drewN _ _ _), e2⟩
        case measure => simp [intOf]; omega
      · have e2 := Lib.hid (show R = false by rw [he.out, hd.out, le_cons, decide_eq_false hx]; rfl)
        have hx' : VM.cnt ys x < n := by omega
        clear he hd
        go_wp2
        go_quiet ((go_at_call 51; exact rCountQ x HBr.out _))
        go_wp2
        go_ret
        rw [e2.out]
        exact ⟨rfl, hbl.trans (below_drewN _ _ _)⟩
    · have hq : ¬ ((k : Int) < (xs.length : Int)) := by omega
      have e2 := Lib.hid (show R = true by rw [he.out, List.drop_of_length_le (by omega)]; rfl)
      clear he HR
      go_wp2
      go_ret
      rw [e2.out]
      exact ⟨rfl, hbl⟩

/-- '!=' of two entries. -/
theorem neq_ent (x n y m : Int) (w : World) : (binOp .neq 68 (.agg #[.int .i64 x, .int .i64 n]) (.agg #[.int .i64 y, .int .i64 m])).run Try.prog w = .ok (.bool (!(decide (x = y) && decide (n = m)))) w := by
  have u3 := Try.underlying3
  have a3 := Try.isAgg3
  have z3 := Try.sizeOf3
  have hS : Try.prog.underlying 68 = some (.struct (Try.prog.fieldsOf 68)) := by kernel_rfl
  have hp : Try.prog.stoodInHeld 68 = false := by kernel_rfl
  rw [run_neq_struct, show (10000 : Nat) = 9999 + 1 from rfl, run_equalIn_agg w 9999 68 _ _ hS hp]
  simp only [Program.fieldsOf, Try.underlying68]
  go_simp
  by_cases h1 : x = y <;> by_cases h2 : n = m <;> simp [h1, h2]

set_option maxRecDepth 100000 in
set_option maxHeartbeats 1000000 in
theorem rEqual (va vb : Value) (xs ys : List Ent) (w : World) (ha : RdV w va xs) (hb : RdV w vb ys) :
    Calls Try.prog 16 #[va, vb] w fun e w' => e = .returned (.bool (decide (xs = ys))) ∧ Below w.heap.size w w' := by
  obtain ⟨ad, c, rfl, hc, hl⟩ := ha.shape
  obtain ⟨bd, d, rfl, hd, hld⟩ := hb.shape
  have HA := Lib.hid ha
  have HB := Lib.hid hb
  clear ha hb
  by_cases hlen : xs.length = ys.length
  · obtain ⟨R, hR⟩ : ∃ R, R = decide (xs = ys) := ⟨_, rfl⟩
    rw [← hR]
    have HR := Lib.hid hR
    clear hR
    have HL := Lib.hid hlen
    have hq0 : ((xs.length : Int) != (ys.length : Int)) = false := by simp; omega
    rw [← hlen] at hq0 ⊢
    clear hlen
    have hneq := neq_ent
    have hm : Try.prog.eqGuardType Try.prog.depth 68 = false := by kernel_rfl
    go_enter Try.func16, Try.ntmps16
    go_wp2
    go_loopw [5] (fun i wr => ∃ k : Nat, k ≤ xs.length ∧ i = .int .i64 k ∧ Below w.heap.size w wr ∧ Hid (R = decide (xs.drop k = ys.drop k))) (fun i _ => xs.length - (intOf i).toNat)
    case atStart => exact ⟨0, Nat.zero_le _, rfl, Below.refl _ _, HR.out⟩
    case round =>
      obtain ⟨k, hk, rfl, hbl, he⟩ := hrel
      by_cases hlt : k < xs.length
      · have hlt2 : k < ys.length := by rw [← HL.out]; exact hlt
        obtain ⟨b, o, hi, hb, c0, c1⟩ := (HA.out.below hbl).at k xs[k] (List.getElem?_eq_getElem hlt)
        obtain ⟨b2, o2, hi2, hb2, d0, d1⟩ := (HB.out.below hbl).at k ys[k] (List.getElem?_eq_getElem hlt2)
        rw [← HL.out] at hi2
        have hq : (k : Int) < (xs.length : Int) := by omega
        have hdx := Lib.hid (drop_get hlt)
        have hdy := Lib.hid (drop_get hlt2)
        clear HR
        generalize xs[k] = en at c0 c1 hdx
        generalize ys[k] = em at d0 d1 hdy
        obtain ⟨x, n⟩ := en
        obtain ⟨y, m⟩ := em
        simp only at c0 c1 d0 d1
        by_cases hx : x = y ∧ n = m
        · obtain ⟨rfl, rfl⟩ := hx
          have e2 := Lib.hid (show R = decide (xs.drop (k + 1) = ys.drop (k + 1)) by rw [he.out, hdx.out, hdy.out]; simp)
          clear he hdx hdy
          go_wp2
          go_quiet (fail)
          go_wp2
          go_roundw
          case rel => exact ⟨k + 1, by omega, by go_num, hbl.trans (below_drewN _ _ _), e2⟩
          case measure => simp [intOf]; omega
        · have e2 := Lib.hid (show R = false by rw [he.out, hdx.out, hdy.out]; simp; exact fun h1 h2 => absurd ⟨h1, h2⟩ hx)
          have hx2 : (decide (x = y) && decide (n = m)) = false := by simpa using hx
          clear he hdx hdy hx
          go_wp2
          go_quiet (fail)
          go_wp2
          go_ret
          rw [e2.out]
          exact ⟨rfl, hbl.trans (below_drewN _ _ _)⟩
      · have hq : ¬ ((k : Int) < (xs.length : Int)) := by omega
        have e2 := Lib.hid (show R = true by rw [he.out, List.drop_of_length_le (by omega), List.drop_of_length_le (by rw [← HL.out]; omega)]; rfl)
        clear he HR
        go_wp2
        go_ret
        rw [e2.out]
        exact ⟨rfl, hbl⟩
  · have e2 := Lib.hid (show decide (xs = ys) = false from decide_eq_false fun h => hlen (by rw [h]))
    have hq0 : ((xs.length : Int) != (ys.length : Int)) = true := by simp; omega
    clear hlen HA HB
    go_enter Try.func16, Try.ntmps16
    go_wp2
    go_ret
    rw [e2.out]
    exact ⟨rfl, Below.refl _ _⟩

theorem err_cons (p : Int) (e : Ent) (v : List Ent) : VM.err p (e :: v) = if VM.off e = true then 9 else if e.1 ≤ p then 7 else VM.err e.1 v := rfl
/-- The author ahead of place k. -/
def prev (xs : List Ent) (k : Nat) : Int := if k = 0 then 0 else (xs.getD (k - 1) (0, 0)).1
theorem prev_succ {xs : List Ent} {k : Nat} {e : Ent} (h : xs[k]? = some e) : prev xs (k + 1) = e.1 := by simp [prev, List.getD, h]

set_option maxRecDepth 100000 in
set_option maxHeartbeats 2000000 in
theorem rValidate (v : Value) (xs : List Ent) (w : World) (h : RdV w v xs) :
    Calls Try.prog 38 #[v] w fun e w' => e = .returned (.int .i64 (VM.err 0 xs)) ∧ Below w.heap.size w w' := by
  obtain ⟨ad, c, rfl, hc, hl⟩ := h.shape
  have H := Lib.hid h
  clear h
  obtain ⟨R, hR⟩ : ∃ R, R = VM.err 0 xs := ⟨_, rfl⟩
  rw [← hR]
  have HR := Lib.hid hR
  clear hR
  go_enter Try.func38, Try.ntmps38
  go_wp2
  go_loopw [3] (fun i wr => ∃ k : Nat, k ≤ xs.length ∧ i = .int .i64 k ∧ Below w.heap.size w wr ∧ Hid (R = VM.err (prev xs k) (xs.drop k))) (fun i _ => xs.length - (intOf i).toNat)
  case atStart => exact ⟨0, Nat.zero_le _, rfl, Below.refl _ _, HR.out⟩
  case round =>
    obtain ⟨k, hk, rfl, hbl, he⟩ := hrel
    by_cases hlt : k < xs.length
    · obtain ⟨b, o, hi, hb, c0, c1⟩ := (H.out.below hbl).at k xs[k] (List.getElem?_eq_getElem hlt)
      have hq : (k : Int) < (xs.length : Int) := by omega
      have hd := Lib.hid (drop_get hlt)
      have hp := Lib.hid (prev_succ (List.getElem?_eq_getElem hlt))
      clear HR
      generalize xs[k] = en at c0 c1 hd hp
      obtain ⟨x, n⟩ := en
      simp only at c0 c1
      by_cases hoff : VM.off (x, n) = true
      · have e2 := Lib.hid (show R = 9 by rw [he.out, hd.out, err_cons, if_pos hoff])
        simp [VM.off] at hoff
        clear he hd hp
        by_cases h1 : x < 1
        · clear hoff
          go_wp2
          go_ret
          rw [e2.out]
          exact ⟨rfl, hbl⟩
        · by_cases h2 : n < 1
          · clear hoff
            go_wp2
            go_ret
            rw [e2.out]
            exact ⟨rfl, hbl⟩
          · have h3 : 1000000 < n := by omega
            clear hoff
            go_wp2
            go_ret
            rw [e2.out]
            exact ⟨rfl, hbl⟩
      · have e1 := Lib.hid (show R = if x ≤ prev xs k then 7 else VM.err x (xs.drop (k + 1)) by rw [he.out, hd.out, err_cons, if_neg hoff])
        simp [VM.off] at hoff
        obtain ⟨h1, h2, h3⟩ := hoff
        have h1' : ¬ x < 1 := by omega
        have h2' : ¬ n < 1 := by omega
        have h3' : ¬ 1000000 < n := by omega
        clear he hd
        by_cases h0 : k = 0
        · subst h0
          have e2 := Lib.hid (show R = VM.err (prev xs (0 + 1)) (xs.drop (0 + 1)) by rw [e1.out, if_neg (by show ¬ x ≤ 0; omega), hp.out])
          have hi0 : ∀ w0 : World, (Instr.indexAt 32 (.slice ad xs.length c) (.int .i64 0)).run Try.prog w0 = .ok (.pointer (some ⟨b, o, none⟩)) w0 := hi
          have hq0 : (0 : Int) < (xs.length : Int) := hq
          clear e1 hp hi hq
          go_wp2
          go_quiet (fail)
          go_wp2
          go_roundw
          case rel => exact ⟨0 + 1, by omega, by go_num, hbl.trans (below_drewN _ _ _), e2⟩
          case measure => simp [intOf]; omega
        · have hk1 : (0 : Int) < (k : Int) := by omega
          have hk2 : 0 < k := by omega
          have hkl : k - 1 < xs.length := by omega
          obtain ⟨b2, o2, hi2, hb2, d0, d1⟩ := (H.out.below hbl).at (k - 1) xs[k - 1] (List.getElem?_eq_getElem hkl)
          have hpk := Lib.hid (show prev xs k = xs[k - 1].1 by simp [prev, h0, List.getD, List.getElem?_eq_getElem hkl])
          generalize xs[k - 1] = em at d0 d1 hpk
          obtain ⟨y, m⟩ := em
          simp only at d0 d1
          rw [show ((k - 1 : Nat) : Int) = (k : Int) - 1 by omega] at hi2
          by_cases hy : x ≤ y
          · have e2 := Lib.hid (show R = 7 by rw [e1.out, hpk.out, if_pos hy])
            have hy' : y ≥ x := hy
            clear e1 hp hpk
            go_wp2
            go_quiet (fail)
            go_wp2
            go_ret
            rw [e2.out]
            exact ⟨rfl, hbl.trans (below_drewN _ _ _)⟩
          · have e2 := Lib.hid (show R = VM.err (prev xs (k + 1)) (xs.drop (k + 1)) by rw [e1.out, hpk.out, if_neg hy, hp.out])
            have hy' : ¬ y ≥ x := hy
            clear e1 hp hpk
            go_wp2
            go_quiet (fail)
            go_wp2
            go_roundw
            case rel => exact ⟨k + 1, by omega, by go_num, hbl.trans (below_drewN _ _ _), e2⟩
            case measure => simp [intOf]; omega
    · have hq : ¬ ((k : Int) < (xs.length : Int)) := by omega
      have e2 := Lib.hid (show R = 0 by rw [he.out, List.drop_of_length_le (by omega)]; rfl)
      clear he HR
      go_wp2
      go_ret
      rw [e2.out]
      exact ⟨rfl, hbl⟩

end Go.Proofs.Ytacbpphhkkmelaa.VX
