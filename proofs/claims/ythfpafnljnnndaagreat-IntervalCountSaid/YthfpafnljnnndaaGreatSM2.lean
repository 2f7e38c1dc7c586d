/-
  The calls of ValidateView and ValidateGenesis, the program's and the reference's: each returns the error that the plain mathematics says. No conditions beyond that the members read.
  The calls that validate a summary's lists, the program's and the reference's: servers in range, ascending. No conditions beyond that the lists read.
  The calls of Validate, the program's and the reference's: each returns the error that the plain mathematics says. No conditions beyond that the summary reads.
  The calls of Validate, the program's: it returns the error that the plain mathematics says. No conditions beyond that the summary reads.
  The calls that compare summaries and views, the program's and the reference's: true just where all is equal. No conditions beyond that they read.
  The calls EqualView of the reference and Equal of the program: true just where all is equal. No conditions beyond that they read.
-/
import Derived.Test.YthfpafnljnnndaaGreatSMFun
import Derived.Deep.RegionHeld3
namespace Go.Proofs.YthfpafnljnnndaaGreat
open Go.RowKit
open MM (Mem Ent Sm Tri)

theorem isSrv_false {x : Int} : JM.isSrv x = false ↔ x < 1 ∨ 12 < x := by
  unfold JM.isSrv
  rw [decide_eq_false_iff_not]; omega
theorem errM_cons (p : Int) (m : Mem) (v : List Mem) : MM.errM p (m :: v) = if MM.off m = true then 9 else if m.1 ≤ p then 7 else MM.errM m.1 v := rfl
/-- The server ahead of place k. -/
def prevM (xs : List Mem) (k : Nat) : Int := if k = 0 then 0 else (xs.getD (k - 1) (0, 0)).1
theorem prevM_succ {xs : List Mem} {k : Nat} {m : Mem} (h : xs[k]? = some m) : prevM xs (k + 1) = m.1 := by simp [prevM, List.getD, h]

set_option maxRecDepth 100000 in
set_option maxHeartbeats 4000000 in
theorem rValView (s : Value) (k c f : Int) (ms : List Mem) (w : World) (h : RdM w s ms) :
    Calls Tryz.prog 45 #[vw s k c f] w fun e w' => e = .returned (.int .i64 (MM.errV k c f ms)) ∧ Below w.heap.size w w' := by
  have hr := fun w => rValRule k c f w
  have hv := VBox.fresh w 41 s k c f
  have hB := below_fresh w (.cells #[s, .int .i64 k, .int .i64 c, .int .i64 f] 41)
  have h0 := h.below hB
  obtain ⟨ad, cp, rfl, hcp, hl⟩ := h.shape
  clear h
  obtain ⟨R, hR⟩ : ∃ R, R = MM.errV k c f ms := ⟨_, rfl⟩
  rw [← hR]
  unfold MM.errV at hR
  generalize JM.errR k c f = er at hr hR
  have HC := Lib.hid hr
  have H := Lib.hid h0
  have HV := Lib.hid hv
  have HB := Lib.hid hB
  clear hr h0 hv hB
  by_cases he : er = 0
  · subst he
    have HR := Lib.hid (show R = MM.errM (prevM ms 0) (ms.drop 0) by rw [hR, if_pos rfl]; rfl)
    clear hR
    go_enter Tryz.func45, Tryz.ntmps45
    go_wp2_with fail
    generalize hw0 : w.alloc _ = w0
    rw [hw0] at H HV HB
    clear hw0
    refine (HC.out _).mono ?_
    rintro e w1 ⟨rfl, hb1⟩
    have H1 := Lib.hid (H.out.below hb1)
    have HV1 := Lib.hid (HV.out.below hb1)
    have HB1 := Lib.hid (bnext HB.out hb1)
    obtain ⟨v0, v1, v2, v3, v4⟩ := HV1.out
    clear HC H HV HB hb1
    go_wp2
    go_loopw [4] (fun i wr => ∃ j : Nat, j ≤ ms.length ∧ i = .int .i64 j ∧ Below w1.heap.size w1 wr ∧ Hid (R = MM.errM (prevM ms j) (ms.drop j))) (fun i _ => ms.length - (intOf i).toNat)
    case atStart => exact ⟨0, Nat.zero_le _, rfl, Below.refl _ _, HR.out⟩
    case round =>
      obtain ⟨j, hj, rfl, hbl, he⟩ := hrel
      clear HR v0 v1 v2 v3 v4
      have hsz := hbl.size
      obtain ⟨u0, u1, u2, u3, u4⟩ := HV1.out.below hbl
      by_cases hlt : j < ms.length
      · obtain ⟨b, o, hi, hb, c0, c1⟩ := atM (H1.out.below hbl) j ms[j] (List.getElem?_eq_getElem hlt)
        have hq : (j : Int) < (ms.length : Int) := by omega
        have hd := Lib.hid (drop_get hlt)
        have hp := Lib.hid (prevM_succ (List.getElem?_eq_getElem hlt))
        have HX := Lib.hid ((bnext HB1.out hbl).alloc (bnext HB1.out hbl).size (.cells #[.int .i64 ms[j].1, .int .i64 ms[j].2] 63))
        have HY := Lib.hid (hbl.alloc hsz (.cells #[.int .i64 ms[j].1, .int .i64 ms[j].2] 63))
        generalize ms[j] = en at c0 c1 hd hp HX HY
        obtain ⟨x, n⟩ := en
        simp only at c0 c1 HX HY
        have HS := Lib.hid (fun w => rServer x w)
        have hsr := JM.isSrv_iff (x := x)
        have hsf := isSrv_false (x := x)
        generalize JM.isSrv x = sx at HS hsr hsf
        by_cases hoff : MM.off (x, n) = true
        · have e2 := Lib.hid (show R = 9 by rw [he.out, hd.out, errM_cons, if_pos hoff])
          simp [MM.off] at hoff
          clear he hd hp
          cases sx
          · clear hsr hsf hoff
            go_wp2_with (go_at_call 70; refine (HS.out _).mono ?_; rintro e w2 ⟨rfl, rfl⟩)
            go_ret
            rw [e2.out]
            exact ⟨rfl, HX.out⟩
          · have hs := hsr.1 rfl
            clear hsr hsf
            by_cases h2 : n < 1
            · clear hoff
              go_wp2_with (go_at_call 70; refine (HS.out _).mono ?_; rintro e w2 ⟨rfl, rfl⟩)
              go_ret
              rw [e2.out]
              exact ⟨rfl, HX.out⟩
            · have h3 : 9 < n := by omega
              clear hoff
              go_wp2_with (go_at_call 70; refine (HS.out _).mono ?_; rintro e w2 ⟨rfl, rfl⟩)
              go_ret
              rw [e2.out]
              exact ⟨rfl, HX.out⟩
        · have e1 := Lib.hid (show R = if x ≤ prevM ms j then 7 else MM.errM x (ms.drop (j + 1)) by rw [he.out, hd.out, errM_cons, if_neg hoff])
          simp [MM.off] at hoff
          obtain ⟨h1, h4, h2, h3⟩ := hoff
          have hst : sx = true := hsr.2 ⟨by omega, by omega⟩
          subst hst
          clear hsr hsf
          have h2' : ¬ n < 1 := by omega
          have h3' : ¬ 9 < n := by omega
          clear he hd
          by_cases h0 : j = 0
          · subst h0
            have e2 := Lib.hid (show R = MM.errM (prevM ms (0 + 1)) (ms.drop (0 + 1)) by rw [e1.out, if_neg (by show ¬ x ≤ 0; omega), hp.out])
            have hi0 : ∀ w0 : World, (Instr.indexAt 31 (.slice ad ms.length cp) (.int .i64 0)).run Tryz.prog w0 = .ok (.pointer (some ⟨b, o, none⟩)) w0 := hi
            have hq0 : (0 : Int) < (ms.length : Int) := hq
            clear e1 hp hi hq
            go_wp2_with (go_at_call 70; refine (HS.out _).mono ?_; rintro e w2 ⟨rfl, rfl⟩)
            go_quiet (fail)
            go_wp2
            go_roundw
            case rel => exact ⟨0 + 1, by omega, by go_num, HY.out.trans (below_drewN _ _ _), e2⟩
            case measure => simp [intOf]; omega
          · have hk1 : (0 : Int) < (j : Int) := by omega
            have hk2 : 0 < j := by omega
            have hkl : j - 1 < ms.length := by omega
            obtain ⟨b2, o2, hi2, hb2, d0, d1⟩ := atM (H1.out.below hbl) (j - 1) ms[j - 1] (List.getElem?_eq_getElem hkl)
            have hpk := Lib.hid (show prevM ms j = ms[j - 1].1 by simp [prevM, h0, List.getD, List.getElem?_eq_getElem hkl])
            generalize ms[j - 1] = em at d0 d1 hpk
            obtain ⟨y, m⟩ := em
            simp only at d0 d1
            rw [show ((j - 1 : Nat) : Int) = (j : Int) - 1 by omega] at hi2
            by_cases hy : x ≤ y
            · have e2 := Lib.hid (show R = 7 by rw [e1.out, hpk.out, if_pos hy])
              clear e1 hp hpk
              go_wp2_with (go_at_call 70; refine (HS.out _).mono ?_; rintro e w2 ⟨rfl, rfl⟩)
              go_quiet (fail)
              go_wp2
              go_ret
              rw [e2.out]
              exact ⟨rfl, HX.out.trans (below_drewN _ _ _)⟩
            · have e2 := Lib.hid (show R = MM.errM (prevM ms (j + 1)) (ms.drop (j + 1)) by rw [e1.out, hpk.out, if_neg hy, hp.out])
              clear e1 hp hpk
              go_wp2_with (go_at_call 70; refine (HS.out _).mono ?_; rintro e w2 ⟨rfl, rfl⟩)
              go_quiet (fail)
              go_wp2
              go_roundw
              case rel => exact ⟨j + 1, by omega, by go_num, HY.out.trans (below_drewN _ _ _), e2⟩
              case measure => simp [intOf]; omega
      · have hq : ¬ ((j : Int) < (ms.length : Int)) := by omega
        have e2 := Lib.hid (show R = 0 by rw [he.out, List.drop_of_length_le (by omega)]; rfl)
        have HX := Lib.hid (bnext HB1.out hbl)
        clear he
        go_wp2
        go_ret
        rw [e2.out]
        exact ⟨rfl, HX.out⟩
  · have HR := Lib.hid (show R = er by rw [hR, if_neg he])
    have he' : (er != 0) = true := bne_t he
    clear hR he
    go_enter Tryz.func45, Tryz.ntmps45
    go_wp2_with fail
    generalize hw0 : w.alloc _ = w0
    rw [hw0] at HB
    clear hw0
    refine (HC.out _).mono ?_
    rintro e w1 ⟨rfl, hb1⟩
    have HB1 := Lib.hid (bnext HB.out hb1)
    clear HC H HV HB hb1
    go_wp2
    go_ret
    rw [HR.out]
    exact ⟨rfl, HB1.out⟩

set_option maxRecDepth 100000 in
set_option maxHeartbeats 1000000 in
theorem rValGen (s : Value) (k c f : Int) (ms : List Mem) (w : World) (h : RdM w s ms) :
    Calls Tryz.prog 17 #[vw s k c f] w fun e w' => e = .returned (.int .i64 (MM.errG k c f ms)) ∧ Below w.heap.size w w' := by
  have hB := below_fresh w (.cells #[s, .int .i64 k, .int .i64 c, .int .i64 f] 35)
  have hv := VBox.fresh w 35 s k c f
  have h0 := h.below hB
  obtain ⟨ad, cp, rfl, hcp, hl⟩ := h.shape
  generalize hw : w.alloc (.cells #[.slice ad ms.length cp, .int .i64 k, .int .i64 c, .int .i64 f] 35) = wa at hB hv h0
  have HC := Lib.hid (fun w' => rValView (.slice ad ms.length cp) k c f ms w')
  obtain ⟨v0, v1, v2, v3, v4⟩ := hv
  obtain ⟨R, hR⟩ : ∃ R, R = MM.errG k c f ms := ⟨_, rfl⟩
  rw [← hR]
  unfold MM.errG at hR
  generalize MM.errV k c f ms = ev at hR HC
  have HW := Lib.hid hw
  have HB := Lib.hid hB
  have H0 := Lib.hid h0
  have HV := Lib.hid (show VBox wa w.heap.size (.slice ad ms.length cp) k c f from ⟨v0, v1, v2, v3, v4⟩)
  clear h hw hB h0 v0
  by_cases he : ev = 0
  · subst he
    by_cases hn : ms.length = 0
    · have e := Lib.hid (show R = 2 by rw [hR, if_pos rfl, if_pos (List.eq_nil_of_length_eq_zero hn)])
      have hz : ((ms.length : Int) == 0) = true := beq_t (by omega)
      clear hR hn hl
      go_enter Tryz.func17, Tryz.ntmps17
      go_wp2_with fail
      rw [HW.out]
      refine (HC.out _ H0.out).mono ?_
      rintro e1 w1 ⟨rfl, hb1⟩
      obtain ⟨u0, u1, u2, u3, u4⟩ := HV.out.below hb1
      have HB1 := Lib.hid (bnext HB.out hb1)
      clear hb1 v1 v2 v3 v4
      go_wp2
      go_ret
      rw [e.out]
      exact ⟨rfl, HB1.out⟩
    · have e := Lib.hid (show R = 0 by rw [hR, if_pos rfl, if_neg (fun h => hn (by rw [h]; rfl))])
      have hz : ((ms.length : Int) == 0) = false := beq_f (by omega)
      clear hR hn hl
      go_enter Tryz.func17, Tryz.ntmps17
      go_wp2_with fail
      rw [HW.out]
      refine (HC.out _ H0.out).mono ?_
      rintro e1 w1 ⟨rfl, hb1⟩
      obtain ⟨u0, u1, u2, u3, u4⟩ := HV.out.below hb1
      have HB1 := Lib.hid (bnext HB.out hb1)
      clear hb1 v1 v2 v3 v4
      go_wp2
      go_ret
      rw [e.out]
      exact ⟨rfl, HB1.out⟩
  · have e := Lib.hid (show R = ev by rw [hR, if_neg he])
    have hne : (ev != 0) = true := bne_t he
    clear hR he
    go_enter Tryz.func17, Tryz.ntmps17
    go_wp2_with fail
    rw [HW.out]
    refine (HC.out _ H0.out).mono ?_
    rintro e1 w1 ⟨rfl, hb1⟩
    have HB1 := Lib.hid (bnext HB.out hb1)
    clear hb1 v1 v2 v3 v4
    go_wp2
    go_ret
    rw [e.out]
    exact ⟨rfl, HB1.out⟩

end Go.Proofs.YthfpafnljnnndaaGreat

namespace Go.Proofs.YthfpafnljnnndaaGreat
open Go.RowKit
open MM (Mem Ent Sm Tri)

set_option maxRecDepth 100000 in
set_option maxHeartbeats 1000000 in
theorem rAsc (v : Value) (xs : List Int) (w : World) (h : RdI w v xs) : Calls Tryz.prog 36 #[v] w fun e w' => e = .returned (.bool (MM.asc xs)) ∧ Below w.heap.size w w' := by
  obtain ⟨ad, c, rfl, hc, hl⟩ := h.shape
  have H := Lib.hid h
  clear h
  obtain ⟨R, hR⟩ : ∃ R, R = MM.asc xs := ⟨_, rfl⟩
  rw [← hR]
  have HR := Lib.hid (show R = MM.asc (xs.drop 0) from hR)
  clear hR
  go_enter Tryz.func36, Tryz.ntmps36
  go_wp2
  go_loopw [3] (fun i wr => ∃ k : Nat, k ≤ xs.length ∧ i = .int .i64 ((k : Int) + 1) ∧ Below w.heap.size w wr ∧ Hid (R = MM.asc (xs.drop k))) (fun i _ => xs.length - (intOf i).toNat)
  case atStart => exact ⟨0, Nat.zero_le _, rfl, Below.refl _ _, HR⟩
  case round =>
    obtain ⟨k, hk, rfl, hbl, he⟩ := hrel
    clear HR
    by_cases hlt : k + 1 < xs.length
    · obtain ⟨b, o, hi, hb, c0⟩ := atI (H.out.below hbl) k (xs[k]'(by omega)) (List.getElem?_eq_getElem (by omega))
      obtain ⟨b2, o2, hi2, hb2, d0⟩ := atI (H.out.below hbl) (k + 1) xs[k + 1] (List.getElem?_eq_getElem hlt)
      rw [show ((k + 1 : Nat) : Int) = (k : Int) + 1 by omega] at hi2
      have hq : (k : Int) + 1 < (xs.length : Int) := by omega
      have hz : (k : Int) + 1 - 1 = (k : Int) := by omega
      have hdx := Lib.hid (drop_get (show k < xs.length by omega))
      have hdy := Lib.hid (drop_get hlt)
      generalize xs[k]'(by omega) = x at c0 hdx
      generalize xs[k + 1] = y at d0 hdy
      have e1 := Lib.hid (show R = (decide (x < y) && MM.asc (xs.drop (k + 1))) by rw [he.out, hdx.out, hdy.out]; rfl)
      clear he hdx hdy
      by_cases hxy : x < y
      · have e2 := Lib.hid (show R = MM.asc (xs.drop (k + 1)) by rw [e1.out, decide_eq_true hxy]; rfl)
        have hle : ¬ y ≤ x := by omega
        clear e1
        go_wp2
        go_quiet (fail)
        go_wp2
        go_roundw
        case rel => exact ⟨k + 1, by omega, by go_num, hbl.trans (below_drewN _ _ _), e2⟩
        case measure => simp [intOf]; omega
      · have e2 := Lib.hid (show R = false by rw [e1.out, decide_eq_false hxy]; rfl)
        have hle : y ≤ x := by omega
        clear e1
        go_wp2
        go_quiet (fail)
        go_wp2
        go_ret
        rw [e2.out]
        exact ⟨rfl, hbl.trans (below_drewN _ _ _)⟩
    · have hq : ¬ ((k : Int) + 1 < (xs.length : Int)) := by omega
      have e2 := Lib.hid (show R = true by
        rw [he.out]
        by_cases h1 : k < xs.length
        · rw [drop_get h1, List.drop_of_length_le (by omega)]; rfl
        · rw [List.drop_of_length_le (by omega)]; rfl)
      clear he
      go_wp2
      go_ret
      rw [e2.out]
      exact ⟨rfl, hbl⟩

end Go.Proofs.YthfpafnljnnndaaGreat

namespace Go.Proofs.YthfpafnljnnndaaGreat
open Go.RowKit
open MM (Mem Ent Sm Tri)

/-- The server ahead of place k. -/
def prevW (xs : List Ent) (k : Nat) : Int := if k = 0 then 0 else (xs.getD (k - 1) (0, 0, 0, 0, 0)).1
end Go.Proofs.YthfpafnljnnndaaGreat

namespace Go.Proofs.YthfpafnljnnndaaGreat
open Go.RowKit
open MM (Mem Ent Sm Tri)

theorem gm_rule : Tryz.prog.eqGuardType Tryz.prog.depth 33 = false := by kernel_rfl
theorem gm_org : Tryz.prog.eqGuardType Tryz.prog.depth 138 = false := by kernel_rfl
theorem gm_mem : Tryz.prog.eqGuardType Tryz.prog.depth 63 = false := by kernel_rfl
/-- A summary in a block, its fields by name. -/
def B9 (w : World) (B : Nat) (x y z : Value) (k c f v a n : Int) : Prop :=
  B < w.heap.size ∧ w.cell? ⟨B, 0, none⟩ = some x ∧ w.cell? ⟨B, 1, none⟩ = some y ∧ w.cell? ⟨B, 2, none⟩ = some z ∧ w.cell? ⟨B, 3, none⟩ = some (.int .i64 k) ∧ w.cell? ⟨B, 4, none⟩ = some (.int .i64 c) ∧
    w.cell? ⟨B, 5, none⟩ = some (.int .i64 f) ∧ w.cell? ⟨B, 6, none⟩ = some (.int .i64 v) ∧ w.cell? ⟨B, 7, none⟩ = some (.int .i64 a) ∧ w.cell? ⟨B, 8, none⟩ = some (.int .i64 n)
theorem B9.below {w w' : World} {B : Nat} {x y z : Value} {k c f v a n : Int} (h : B9 w B x y z k c f v a n) (hb : Below w.heap.size w w') : B9 w' B x y z k c f v a n := by
  obtain ⟨h0, h1, h2, h3, h4, h5, h6, h7, h8, h9⟩ := h
  exact ⟨Nat.lt_of_lt_of_le h0 hb.size, below_cell hb h1, below_cell hb h2, below_cell hb h3, below_cell hb h4, below_cell hb h5, below_cell hb h6, below_cell hb h7, below_cell hb h8, below_cell hb h9⟩
theorem B9.fresh (w : World) (t : TypeId) (x y z : Value) (k c f v a n : Int) : B9 (w.alloc (.cells #[x, y, z, .int .i64 k, .int .i64 c, .int .i64 f, .int .i64 v, .int .i64 a, .int .i64 n] t)) w.heap.size x y z k c f v a n :=
  ⟨by simp, by simp [World.cell?_alloc_new], by simp [World.cell?_alloc_new], by simp [World.cell?_alloc_new], by simp [World.cell?_alloc_new], by simp [World.cell?_alloc_new], by simp [World.cell?_alloc_new], by simp [World.cell?_alloc_new], by simp [World.cell?_alloc_new], by simp [World.cell?_alloc_new]⟩

end Go.Proofs.YthfpafnljnnndaaGreat

namespace Go.Proofs.YthfpafnljnnndaaGreat
open Go.RowKit
open MM (Mem Ent Sm Tri)

set_option maxRecDepth 100000 in
set_option maxHeartbeats 1000000 in
theorem rEqInts (va vb : Value) (xs ys : List Int) (w : World) (ha : RdI w va xs) (hb : RdI w vb ys) :
    Calls Tryz.prog 21 #[va, vb] w fun e w' => e = .returned (.bool (decide (xs = ys))) ∧ Below w.heap.size w w' := by
  obtain ⟨ad, c, rfl, hc, hl⟩ := ha.shape
  obtain ⟨bd, d, rfl, hd, hld⟩ := hb.shape
  have HA := Lib.hid ha
  have HB := Lib.hid hb
  clear ha hb
  by_cases hlen : xs.length = ys.length
  · obtain ⟨R, hR⟩ : ∃ R, R = decide (xs = ys) := ⟨_, rfl⟩
    rw [← hR]
    have HR := Lib.hid hR
    clear hR
    have HL := Lib.hid hlen
    have hq0 : ((xs.length : Int) != (ys.length : Int)) = false := by simp; omega
    rw [← hlen] at hq0 ⊢
    clear hlen
    go_enter Tryz.func21, Tryz.ntmps21
    go_wp2
    go_loopw [5] (fun i wr => ∃ k : Nat, k ≤ xs.length ∧ i = .int .i64 k ∧ Below w.heap.size w wr ∧ Hid (R = decide (xs.drop k = ys.drop k))) (fun i _ => xs.length - (intOf i).toNat)
    case atStart => exact ⟨0, Nat.zero_le _, rfl, Below.refl _ _, HR.out⟩
    case round =>
      obtain ⟨k, hk, rfl, hbl, he⟩ := hrel
      by_cases hlt : k < xs.length
      · have hlt2 : k < ys.length := by rw [← HL.out]; exact hlt
        have hatx := List.getElem?_eq_getElem hlt
        have haty := List.getElem?_eq_getElem hlt2
        have hdx := Lib.hid (drop_get hlt)
        have hdy := Lib.hid (drop_get hlt2)
        generalize xs[k] = y at hdx hatx
        generalize ys[k] = z at hdy haty
        obtain ⟨b, o, hi, hb, d0⟩ := atI (HA.out.below hbl) k _ hatx
        obtain ⟨bb, oo, hi2, hb2, f0⟩ := atI (HB.out.below hbl) k _ haty
        rw [← HL.out] at hi2
        have hq : (k : Int) < (xs.length : Int) := by omega
        clear HR hatx haty
        have hBB : ∃ B, B = decide (y = z) := ⟨_, rfl⟩
        obtain ⟨B, hB⟩ := hBB
        have hneq : (y != z) = !B := by rw [hB]; rfl
        have e0 := Lib.hid (show R = (B && decide (xs.drop (k + 1) = ys.drop (k + 1))) by
          rw [he.out, hdx.out, hdy.out, hB]
          rw [← Bool.decide_and]
          exact decide_eq_decide.2 List.cons_eq_cons)
        clear he hdx hdy hB
        cases B
        · have e2 := Lib.hid (e0.out.trans (Bool.false_and _))
          clear e0
          go_wp2
          go_quiet (fail)
          go_wp2
          go_ret
          rw [e2.out]
          exact ⟨rfl, hbl.trans (below_drewN _ _ _)⟩
        · have e2 := Lib.hid (e0.out.trans (Bool.true_and _))
          clear e0
          go_wp2
          go_quiet (fail)
          go_wp2
          go_roundw
          case rel => exact ⟨k + 1, by omega, by go_num, hbl.trans (below_drewN _ _ _), e2⟩
          case measure => simp [intOf]; omega
      · have hq : ¬ ((k : Int) < (xs.length : Int)) := by omega
        have e2 := Lib.hid (show R = true by rw [he.out, List.drop_of_length_le (by omega), List.drop_of_length_le (by rw [← HL.out]; omega)]; rfl)
        clear he HR
        go_wp2
        go_ret
        rw [e2.out]
        exact ⟨rfl, hbl⟩
  · have e2 := Lib.hid (show decide (xs = ys) = false from decide_eq_false fun h => hlen (by rw [h]))
    have hq0 : ((xs.length : Int) != (ys.length : Int)) = true := by simp; omega
    clear hlen HA HB
    go_enter Tryz.func21, Tryz.ntmps21
    go_wp2
    go_ret
    rw [e2.out]
    exact ⟨rfl, Below.refl _ _⟩

end Go.Proofs.YthfpafnljnnndaaGreat

namespace Go.Proofs.YthfpafnljnnndaaGreat
open Go.RowKit
open MM (Mem Ent Sm Tri)

theorem neq_mv (s t s' t' : Int) (B : Bool) (h : B = decide ((s, t) = (s', t'))) (w : World) :
    (binOp .neq 63 (mv s t) (mv s' t')).run Tryz.prog w = .ok (.bool (!B)) w := by
  rw [h, neq_mem]; simp
set_option maxRecDepth 100000 in
set_option maxHeartbeats 4000000 in
theorem rEqView (u u' : Value) (ms ms' : List Mem) (k c f k' c' f' : Int) (w : World) (hu : RdM w u ms) (hu' : RdM w u' ms') :
    Calls Tryz.prog 19 #[vw u k c f, vw u' k' c' f'] w fun e w' => e = .returned (.bool (decide (ms = ms' ∧ k = k' ∧ c = c' ∧ f = f'))) ∧ Below w.heap.size w w' := by
  obtain ⟨ad, cp, rfl, hcp, hl⟩ := hu.shape
  obtain ⟨ad', cp', rfl, hcp', hl'⟩ := hu'.shape
  have hB := below_fresh w (.cells #[.slice ad ms.length cp, .int .i64 k, .int .i64 c, .int .i64 f] 41)
  have hP := VBox.fresh w 41 (.slice ad ms.length cp) k c f
  generalize hw1 : w.alloc (.cells #[.slice ad ms.length cp, .int .i64 k, .int .i64 c, .int .i64 f] 41) = w1 at hB hP
  have hs1 : w1.heap.size = w.heap.size + 1 := by rw [← hw1]; exact World.size_alloc _ _
  have hB2 := below_fresh w1 (.cells #[.slice ad' ms'.length cp', .int .i64 k', .int .i64 c', .int .i64 f'] 41)
  have hP2 := VBox.fresh w1 41 (.slice ad' ms'.length cp') k' c' f'
  have hPb := hP.below hB2
  rw [hs1] at hP2
  generalize hw2 : w1.alloc (.cells #[.slice ad' ms'.length cp', .int .i64 k', .int .i64 c', .int .i64 f'] 41) = w2 at hB2 hP2 hPb
  have hBB := bnext hB hB2
  obtain ⟨R, hR⟩ : ∃ R, R = decide (ms = ms' ∧ k = k' ∧ c = c' ∧ f = f') := ⟨_, rfl⟩
  rw [← hR]
  have HE := Lib.hid (And.intro (hu.below hBB) (hu'.below hBB))
  have HB := Lib.hid hBB
  have HP := Lib.hid (And.intro hPb hP2)
  have HW1 := Lib.hid hw1
  have HW2 := Lib.hid hw2
  have HR := Lib.hid hR
  obtain ⟨_, p0, p1, p2, p3⟩ := hPb
  obtain ⟨_, q0, q1, q2, q3⟩ := hP2
  clear hR hu hu' hBB hP hB hB2 hw1 hs1 hw2
  have hm := gm_mem
  have hmr := gm_rule
  by_cases hall : ms.length = ms'.length ∧ k = k' ∧ c = c' ∧ f = f'
  · obtain ⟨hlen, rfl, rfl, rfl⟩ := hall
    have HR0 := Lib.hid (show R = decide (ms.drop 0 = ms'.drop 0) by rw [HR.out]; simp)
    have HL := Lib.hid hlen
    have hq0 : ((ms.length : Int) != (ms'.length : Int)) = false := by simp; omega
    clear HR hlen
    go_enter Tryz.func19, Tryz.ntmps19
    go_wp2
    rw [HW1.out, HW2.out]
    go_wp2
    go_loopw [5] (fun i wr => ∃ j : Nat, j ≤ ms.length ∧ i = .int .i64 j ∧ Below w2.heap.size w2 wr ∧ Hid (R = decide (ms.drop j = ms'.drop j))) (fun i _ => ms.length - (intOf i).toNat)
    case atStart => exact ⟨0, Nat.zero_le _, rfl, Below.refl _ _, HR0⟩
    case round =>
      obtain ⟨j, hj, rfl, hbl, he⟩ := hrel
      clear HR0 p0 p1 p2 p3 q0 q1 q2 q3
      obtain ⟨_, p0, p1, p2, p3⟩ := HP.out.1.below hbl
      obtain ⟨_, q0, q1, q2, q3⟩ := HP.out.2.below hbl
      have HBL := Lib.hid (bnext HB.out hbl)
      by_cases hlt : j < ms.length
      · have hlt2 : j < ms'.length := by rw [← HL.out]; exact hlt
        have hatx := List.getElem?_eq_getElem hlt
        have haty := List.getElem?_eq_getElem hlt2
        have hdx := Lib.hid (drop_get hlt)
        have hdy := Lib.hid (drop_get hlt2)
        generalize ms[j] = e1 at hdx hatx
        obtain ⟨g1, g2⟩ := e1
        generalize ms'[j] = e2 at hdy haty
        obtain ⟨h1, h2⟩ := e2
        obtain ⟨b, o, hi, hb, d0, d1⟩ := atM (HE.out.1.below hbl) j _ hatx
        obtain ⟨bb, oo, hi2, hb2, f0, f1⟩ := atM (HE.out.2.below hbl) j _ haty
        simp only at d0 d1 f0 f1
        have hq : (j : Int) < (ms.length : Int) := by omega
        clear hatx haty
        have hBB : ∃ B, B = decide ((g1, g2) = (h1, h2)) := ⟨_, rfl⟩
        obtain ⟨B, hB⟩ := hBB
        have hneq := neq_mv _ _ _ _ B hB
        have e0 := Lib.hid (show R = (B && decide (ms.drop (j + 1) = ms'.drop (j + 1))) by
          rw [he.out, hdx.out, hdy.out, hB]
          rw [← Bool.decide_and]
          exact decide_eq_decide.2 List.cons_eq_cons)
        clear he hdx hdy hB
        cases B
        · have e2 := Lib.hid (e0.out.trans (Bool.false_and _))
          clear e0
          go_wp2
          go_quiet (fail)
          go_wp2
          go_ret
          rw [e2.out]
          exact ⟨rfl, HBL.out.trans (below_drewN _ _ _)⟩
        · have e2 := Lib.hid (e0.out.trans (Bool.true_and _))
          clear e0
          go_wp2
          go_quiet (fail)
          go_wp2
          go_roundw
          case rel => exact ⟨j + 1, by omega, by go_num, hbl.trans (below_drewN _ _ _), e2⟩
          case measure => simp [intOf]; omega
      · have hq : ¬ ((j : Int) < (ms.length : Int)) := by omega
        have e2 := Lib.hid (show R = true by rw [he.out, List.drop_of_length_le (by omega), List.drop_of_length_le (by rw [← HL.out]; omega)]; rfl)
        clear he
        go_wp2
        go_ret
        rw [e2.out]
        exact ⟨rfl, HBL.out⟩
  · have e := Lib.hid (show R = false by
      rw [HR.out]
      exact decide_eq_false (fun h => hall ⟨by rw [h.1], h.2⟩))
    by_cases hlen : ms.length = ms'.length
    · have hq0 : ((ms.length : Int) != (ms'.length : Int)) = false := by simp; omega
      have h3 : k ≠ k' ∨ (k = k' ∧ c ≠ c') ∨ (k = k' ∧ c = c' ∧ f ≠ f') := by
        by_cases hk : k = k'
        · by_cases hc : c = c'
          · by_cases hf : f = f'
            · exact absurd ⟨hlen, hk, hc, hf⟩ hall
            · exact .inr (.inr ⟨hk, hc, hf⟩)
          · exact .inr (.inl ⟨hk, hc⟩)
        · exact .inl hk
      clear hall hlen
      rcases h3 with hk | ⟨rfl, hk⟩ | ⟨rfl, rfl, hk⟩
      all_goals
        go_enter Tryz.func19, Tryz.ntmps19
        go_wp2
        rw [HW1.out, HW2.out]
        go_wp2
        go_ret
        rw [e.out]
        exact ⟨rfl, HB.out⟩
    · have hq0 : ((ms.length : Int) != (ms'.length : Int)) = true := by simp; omega
      clear hlen hall
      go_enter Tryz.func19, Tryz.ntmps19
      go_wp2
      rw [HW1.out, HW2.out]
      go_wp2
      go_ret
      rw [e.out]
      exact ⟨rfl, HB.out⟩

end Go.Proofs.YthfpafnljnnndaaGreat
