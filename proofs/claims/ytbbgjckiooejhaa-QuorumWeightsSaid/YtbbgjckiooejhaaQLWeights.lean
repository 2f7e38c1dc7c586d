/-
  The law QuorumWeights of layer 4, walked: true, and memory of others as it was. No conditions.
-/
import Derived.Test.YtbbgjckiooejhaaQAwake
import Derived.Test.YtbbgjckiooejhaaQViewK
import Derived.Deep.CutRange
namespace Go.Proofs.Ytbbgjckiooejhaa
open Go.RowKit
open QM (Mem)

theorem cellsM_set : ∀ (ms : List Mem) (j : Nat) (x u : Int), (∃ y, ms[j]? = some (x, y)) → cellsOf encM (ms.set j (x, u)) = (cellsOf encM ms).set (j * 2 + 1) (.int .i64 u)
  | [], j, x, u, ⟨y, h⟩ => by cases h
  | m :: ms, 0, x, u, ⟨y, h⟩ => by
    simp at h
    subst h
    simp [cellsOf, encM]
  | m :: ms, j + 1, x, u, ⟨y, h⟩ => by
    have ih := cellsM_set ms j x u ⟨y, by simpa using h⟩
    have e : (j + 1) * 2 + 1 = (j * 2 + 1) + 2 := by omega
    rw [List.set_cons_succ, e]
    show encM m ++ cellsOf encM (ms.set j (x, u)) = (encM m ++ cellsOf encM ms).set (j * 2 + 1 + 2) (.int .i64 u)
    rw [ih]
    rfl
/-- The weight of a member of one's own. -/
theorem OwnM.spot {base : Nat} {w : World} {a : Option Addr} {n c : Nat} {ms : List Mem} (h : OwnM base w (.slice a n c) ms) (j : Nat) (x y : Int) (hk : ms[j]? = some (x, y)) :
    ∃ g, base ≤ g ∧ (∀ w0, (Instr.indexAt 24 (.slice a n c) (.int .i64 (j : Int))).run Try.prog w0 = .ok (.pointer (some ⟨g, j * 2, none⟩)) w0) ∧ w.cell? ⟨g, j * 2 + 1, none⟩ = some (.int .i64 y) ∧ w.frozen? ⟨g, j * 2 + 1, none⟩ = false ∧
      (∃ cur, w.heap[g]? = some (.cells cur 44 (0, 0))) ∧ ∀ u : Int, OwnM base (w.setCell ⟨g, j * 2 + 1, none⟩ (.int .i64 u)) (.slice a n c) (ms.set j (x, u)) := by
  have hlt : j < ms.length := (List.getElem?_eq_some_iff.1 hk).1
  obtain ⟨g, cap, cur, hv, hg, hh, hn, hm, hs, ht⟩ := h.form (by omega)
  cases hv
  have hrd := h.rd
  obtain ⟨b, o, e1, hb, hc⟩ := hrd.plain (by omega)
  cases e1
  have hcell := hc j (x, y) hk 1 (.int .i64 y) rfl
  refine ⟨g, hg, fun w0 => ?_, by simpa using hcell, by simp [World.frozen?, hh], ⟨cur, hh⟩, fun u => ?_⟩
  · have h1 : (0 : Int) ≤ (j : Int) := by omega
    have h3 : ¬ ms.length ≤ j := by omega
    have hs' := memE.run_size
    simp [Instr.indexAt, asIntOf, run_underlying memE.ht, h1, Result.andThen, addr_plain, hs']
    intro h4
    exact absurd h4 h3
  · have hh2 : (w.setCell ⟨g, j * 2 + 1, none⟩ (.int .i64 u)).heap[g]? = some (.cells (cur.setIfInBounds (j * 2 + 1) (.int .i64 u)) 44 (0, 0)) := by
      simp [World.setCell, Array.getElem?_modify, hh]
    have hl := cellsOf_length (enc := encM) hlM.2 (ms.set j (x, u))
    rw [List.length_set] at hl
    refine ⟨⟨by rw [hl, List.length_set], .inr ⟨g, c, _, by rw [List.length_set], hg, hh2, by rw [List.length_set]; exact hn, hm, by simpa using hs, ?_⟩⟩, hlM⟩
    rw [List.length_set, cellsM_set ms j x u ⟨y, hk⟩, ← ht]
    rw [show (cur.setIfInBounds (j * 2 + 1) (.int .i64 u)).toList = cur.toList.set (j * 2 + 1) (.int .i64 u) by simp, List.take_set]
theorem val_set {u : Int} (h1 : 1 ≤ u) (h9 : u ≤ 9) : ∀ {p : Int} {ms : List Mem} (j : Nat) (x y : Int), QM.Val p ms → ms[j]? = some (x, y) → QM.Val p (ms.set j (x, u))
  | p, [], j, x, y, _, h => by cases h
  | p, m :: ms, 0, x, y, hv, h => by
    simp at h
    subst h
    unfold QM.Val at hv ⊢
    exact ⟨hv.1, hv.2.1, hv.2.2.1, h1, h9, hv.2.2.2.2.2⟩
  | p, m :: ms, j + 1, x, y, hv, h => by
    unfold QM.Val at hv
    show QM.Val p (m :: ms.set j (x, u))
    unfold QM.Val
    exact ⟨hv.1, hv.2.1, hv.2.2.1, hv.2.2.2.1, hv.2.2.2.2.1, val_set h1 h9 j x y hv.2.2.2.2.2 (by simpa using h)⟩

theorem OBox.rule {w : World} {B : Nat} {s : Value} {k c f k' c' f' : Int} (h : OBox w B s k c f) : OBox (((w.setCell ⟨B, 1, none⟩ (.int .i64 k')).setCell ⟨B, 2, none⟩ (.int .i64 c')).setCell ⟨B, 3, none⟩ (.int .i64 f')) B s k' c' f' := by
  unfold OBox at h ⊢
  simp [World.setCell, Array.getElem?_modify, h]
theorem OBox.rule_other {w : World} {B B' : Nat} {s : Value} {k c f k' c' f' : Int} (h : OBox w B s k c f) (hne : B ≠ B') : OBox (((w.setCell ⟨B', 1, none⟩ (.int .i64 k')).setCell ⟨B', 2, none⟩ (.int .i64 c')).setCell ⟨B', 3, none⟩ (.int .i64 f')) B s k c f :=
  ((h.other (a := ⟨B', 1, none⟩) hne).other (a := ⟨B', 2, none⟩) hne).other (a := ⟨B', 3, none⟩) hne
theorem below_rule {b B' : Nat} {w w1 : World} (h : Below b w w1) (hb : b ≤ B') (k' c' f' : Int) : Below b w (((w1.setCell ⟨B', 1, none⟩ (.int .i64 k')).setCell ⟨B', 2, none⟩ (.int .i64 c')).setCell ⟨B', 3, none⟩ (.int .i64 f')) :=
  ((h.setCell (p := ⟨B', 1, none⟩) hb _).setCell (p := ⟨B', 2, none⟩) hb _).setCell (p := ⟨B', 3, none⟩) hb _
theorem two_boxes (wr : World) (s : Value) (k c f : Int) :
    OBox ((wr.alloc (.cells #[s, .int .i64 k, .int .i64 c, .int .i64 f] 26)).alloc (.cells #[s, .int .i64 k, .int .i64 c, .int .i64 f] 26)).drew wr.heap.size s k c f ∧
    OBox ((wr.alloc (.cells #[s, .int .i64 k, .int .i64 c, .int .i64 f] 26)).alloc (.cells #[s, .int .i64 k, .int .i64 c, .int .i64 f] 26)).drew (wr.heap.size + 1) s k c f ∧
    Below wr.heap.size wr ((wr.alloc (.cells #[s, .int .i64 k, .int .i64 c, .int .i64 f] 26)).alloc (.cells #[s, .int .i64 k, .int .i64 c, .int .i64 f] 26)).drew := by
  have h1 := OBox.fresh wr s k c f
  have h2 := OBox.fresh (wr.alloc (.cells #[s, .int .i64 k, .int .i64 c, .int .i64 f] 26)) s k c f
  rw [World.size_alloc] at h2
  exact ⟨h1.below (below_fresh _ _).drew, h2, (bnext (below_fresh wr _) (below_fresh _ _)).drew⟩

set_option maxRecDepth 100000 in
set_option maxHeartbeats 4000000 in
theorem lQuorumWeights (m n s : Int) (w : World) :
    Calls Try.prog 10 #[.int .i64 m, .int .i64 n, .int .i64 s] w fun e w' => e = .returned (.bool true) ∧ Below w.heap.size w w' := by
  have HA := Lib.hid cAwake
  have HK := Lib.hid (kView 0 m)
  have HC := Lib.hid (kChosen s)
  generalize chs s 8 = xs at HC
  have hix := fun w => kIndex n 9 w (by decide) (by decide)
  have hir := ix_range (n := n) (show (1 : Int) ≤ 9 by decide)
  generalize ix n 9 = q at hix hir
  have HI := Lib.hid hix
  clear hix
  go_enter Try.func10, Try.ntmps10
  go_wp2_with fail
  refine (HK.out _).mono ?_
  rintro e w1 ⟨sv, k, c, f, ms0, rfl, ho1, he, hml0, hb1⟩
  obtain ⟨ad, cp, rfl, hcp, _⟩ := ho1.rd.shape
  have hX := OBox.fresh w1 (.slice ad ms0.length cp) k c f
  have hf2 := below_fresh w1 (.cells #[.slice ad ms0.length cp, .int .i64 k, .int .i64 c, .int .i64 f] 26)
  have HO2 := Lib.hid (ho1.below hf2)
  have HX2 := Lib.hid hX
  have HB2 := Lib.hid (bnext hb1 hf2)
  have HGB := Lib.hid (show w.heap.size ≤ w1.heap.size from hb1.size)
  obtain ⟨_, hval⟩ := QM.errV_zero.1 he
  have HL := Lib.hid hval
  clear HK ho1 hb1 hX hf2 he hval
  go_wp2
  generalize w1.alloc (.cells #[.slice ad ms0.length cp, .int .i64 k, .int .i64 c, .int .i64 f] 26) = w2 at HO2 HX2 HB2 ⊢
  generalize w1.heap.size = B at HX2 HGB ⊢
  go_loopw [8] (fun i wr => ∃ (j : Nat) (ms : List Mem), ms.length = ms0.length ∧ j ≤ ms.length ∧ i = .int .i64 j ∧ Hid (OBox wr B (.slice ad ms0.length cp) k c f) ∧ Hid (OwnM w.heap.size wr (.slice ad ms0.length cp) ms) ∧ Hid (QM.Val 0 ms ∧ ∀ x ∈ ms.take j, x.2 = 1 + q) ∧ Hid (Below w.heap.size w wr)) (fun i _ => ms0.length - (intOf i).toNat)
  case atStart => exact ⟨0, ms0, rfl, Nat.zero_le _, rfl, HX2.out, HO2.out, ⟨HL.out, fun x h => by simp at h⟩, HB2.out⟩
  case round =>
    obtain ⟨j, ms, hml, hj, rfl, hx, ho, hv, hb⟩ := hrel
    clear HX2 HO2 HB2 HL
    obtain ⟨b0, b1, b2, b3, f0, f1, f2, f3⟩ := hx.out.cells
    by_cases hlt : j < ms.length
    · have hq : (j : Int) < (ms.length : Int) := by omega
      have hsum : IntKind.i64.wrap (1 + q) = 1 + q := IntWalk.i64_in _ (by omega)
      have hgj := List.getElem?_eq_getElem hlt
      generalize ms[j] = en at hgj
      obtain ⟨x, y⟩ := en
      obtain ⟨g, hg, hi, hc1, hfz, ⟨cur, hcur⟩, hset⟩ := ho.out.spot j x y hgj
      have c0 : wr.drew.cell? ⟨B, 0, none⟩ = some (.slice ad ms0.length cp) := b0
      have c1 : wr.drew.cell? ⟨g, j * 2 + 1, none⟩ = some (.int .i64 y) := hc1
      have c1f : wr.drew.frozen? ⟨g, j * 2 + 1, none⟩ = false := hfz
      have HSET := Lib.hid (hset (1 + q))
      have HGJ := Lib.hid hgj
      have HCUR := Lib.hid hcur
      clear hset hgj hcur
      go_wp2
      go_region_law (go_simp; go_at_call 30; refine (HI.out _).mono ?_; rintro e w2 ⟨rfl, rfl⟩)
      all_goals
        have hne : B ≠ g := by
          rintro rfl
          have h1 := hx.out
          rw [OBox, HCUR.out] at h1
          injection h1 with h1; injection h1 with _ ht; exact absurd ht (by decide)
        have HX6 := Lib.hid (show OBox (wr.setCell ⟨g, j * 2 + 1, none⟩ (.int .i64 (1 + q))).drew B (.slice ad ms0.length cp) k c f from OBox.other (a := ⟨g, j * 2 + 1, none⟩) (u := .int .i64 (1 + q)) hx.out (show B ≠ g from hne))
        have HO6 := Lib.hid (show OwnM w.heap.size (wr.setCell ⟨g, j * 2 + 1, none⟩ (.int .i64 (1 + q))).drew (.slice ad ms0.length cp) (ms.set j (x, 1 + q)) from HSET.out)
        have HV6 := Lib.hid (show QM.Val 0 (ms.set j (x, 1 + q)) ∧ ∀ z ∈ (ms.set j (x, 1 + q)).take (j + 1), z.2 = 1 + q from ⟨val_set (by omega) (by omega) j x y hv.out.1 HGJ.out, fun z hz => by
          have hl : j < (ms.set j (x, 1 + q)).length := by rw [List.length_set]; exact hlt
          rw [List.take_succ_eq_append_getElem hl, List.take_set_of_le (Nat.le_refl _)] at hz
          rcases List.mem_append.1 hz with h | h
          · exact hv.out.2 z h
          · rw [List.mem_singleton, List.getElem_set_self] at h; rw [h]⟩)
        have HB6 := Lib.hid (Below.setCell (p := ⟨g, j * 2 + 1, none⟩) hb.out hg (.int .i64 (1 + q))).drew
        have hl6 : (ms.set j (x, 1 + q)).length = ms0.length := by rw [List.length_set]; exact hml
        clear HSET hx ho hv hb HCUR HGJ c0 c1 c1f hc1 hfz b0 b1 b2 b3 f0 f1 f2 f3 hi
        generalize (wr.setCell ⟨g, j * 2 + 1, none⟩ (.int .i64 (1 + q))).drew = w6 at HX6 HO6 HB6 ⊢
        go_wp2
        go_round
        case rel => exact ⟨j + 1, _, hl6, by omega, by go_num, HX6, HO6, HV6, HB6⟩
        case measure => simp [intOf]; omega
    · have hq : ¬ (j : Int) < (ms0.length : Int) := by omega
      have hms : ∀ x ∈ ms, x.2 = 1 + q := fun x hx => hv.out.2 x (by rw [List.take_of_length_le (by omega)]; exact hx)
      have HV := Lib.hid hv.out.1
      have HMS := Lib.hid hms
      have HRM := Lib.hid ho.out.rd
      have hBlt := hx.out.lt
      have z0 : ∀ o1, (wr.alloc o1).cell? ⟨B, 0, none⟩ = some (.slice ad ms0.length cp) := fun o1 => below_cell (below_fresh wr o1) b0
      have z1 : ∀ o1, (wr.alloc o1).cell? ⟨B, 1, none⟩ = some (.int .i64 k) := fun o1 => below_cell (below_fresh wr o1) b1
      have z2 : ∀ o1, (wr.alloc o1).cell? ⟨B, 2, none⟩ = some (.int .i64 c) := fun o1 => below_cell (below_fresh wr o1) b2
      have z3 : ∀ o1, (wr.alloc o1).cell? ⟨B, 3, none⟩ = some (.int .i64 f) := fun o1 => below_cell (below_fresh wr o1) b3
      have y0 : ∀ o1 o2, ((wr.alloc o1).alloc o2).cell? ⟨B, 0, none⟩ = some (.slice ad ms0.length cp) := fun o1 o2 => below_cell (below_fresh _ o2) (z0 o1)
      have y1 : ∀ o1 o2, ((wr.alloc o1).alloc o2).cell? ⟨B, 1, none⟩ = some (.int .i64 k) := fun o1 o2 => below_cell (below_fresh _ o2) (z1 o1)
      have y2 : ∀ o1 o2, ((wr.alloc o1).alloc o2).cell? ⟨B, 2, none⟩ = some (.int .i64 c) := fun o1 o2 => below_cell (below_fresh _ o2) (z2 o1)
      have y3 : ∀ o1 o2, ((wr.alloc o1).alloc o2).cell? ⟨B, 3, none⟩ = some (.int .i64 f) := fun o1 o2 => below_cell (below_fresh _ o2) (z3 o1)
      clear hms ho hv f0 f1 f2 f3
      go_upto_region 6 with fail
      go_cut [9, 10] from 30 to 31 (fun p9 p10 wx => ∃ B9 B10 : Nat, p9 = .pointer (some ⟨B9, 0, none⟩) ∧ p10 = .pointer (some ⟨B10, 0, none⟩) ∧ B9 ≠ B10 ∧ wr.heap.size ≤ B9 ∧ wr.heap.size ≤ B10 ∧ Hid (OBox wx B9 (.slice ad ms0.length cp) k c f) ∧ Hid (OBox wx B10 (.slice ad ms0.length cp) k c f) ∧ Hid (Below wr.heap.size wr wx))
      case first =>
        go_region
        all_goals
          go_wp2
          go_meet
          first
            | exact ⟨wr.heap.size, wr.heap.size + 1, rfl, rfl, by omega, by omega, by omega, (two_boxes wr _ k c f).1, (two_boxes wr _ k c f).2.1, (two_boxes wr _ k c f).2.2⟩
            | exact ⟨wr.heap.size + 1, wr.heap.size, rfl, rfl, by omega, by omega, by omega, (two_boxes wr _ k c f).2.1, (two_boxes wr _ k c f).1, (two_boxes wr _ k c f).2.2⟩
      case rest =>
        obtain ⟨B9, B10, rfl, rfl, hne, h9, h10, hX9, hX10, hbw⟩ := hcut
        clear z0 z1 z2 z3 y0 y1 y2 y3 b0 b1 b2 b3
        obtain ⟨_, m1, m2, m3, _, g1, g2, g3⟩ := hX9.out.cells
        go_upto_region 8 with fail
        have HX9 := Lib.hid (hX9.out.rule (k' := 1) (c' := 0) (f' := 0))
        have HX10 := Lib.hid (hX10.out.rule_other (B' := B9) (k' := 1) (c' := 0) (f' := 0) (Ne.symm hne))
        have HBW := Lib.hid (below_rule hbw.out h9 1 0 0)
        clear hX9 hX10 hbw m1 m2 m3 g1 g2 g3
        generalize ((wc.setCell ⟨B9, 1, none⟩ (.int .i64 1)).setCell ⟨B9, 2, none⟩ (.int .i64 0)).setCell ⟨B9, 3, none⟩ (.int .i64 0) = w8 at HX9 HX10 HBW ⊢
        obtain ⟨_, m1, m2, m3, _, g1, g2, g3⟩ := HX10.out.cells
        go_upto_region 9 with fail
        have HY10 := Lib.hid (HX10.out.rule (k' := 2) (c' := 0) (f' := 0))
        have HY9 := Lib.hid (HX9.out.rule_other (B' := B10) (k' := 2) (c' := 0) (f' := 0) hne)
        have HBY := Lib.hid (below_rule HBW.out h10 2 0 0)
        clear HX9 HX10 HBW m1 m2 m3 g1 g2 g3
        generalize ((w8.setCell ⟨B10, 1, none⟩ (.int .i64 2)).setCell ⟨B10, 2, none⟩ (.int .i64 0)).setCell ⟨B10, 3, none⟩ (.int .i64 0) = w9 at HY9 HY10 HBY ⊢
        obtain ⟨t0, t1, t2, t3, _⟩ := (hx.out.below HBY.out).cells
        go_upto_region 11 with fail
        have hf := below_fresh w9 (.cells #[.slice ad ms0.length cp, .int .i64 4, .int .i64 0, .int .i64 0] 26)
        have HZ9 := Lib.hid (HY9.out.below hf)
        have HZ10 := Lib.hid (HY10.out.below hf)
        have HZ11 := Lib.hid (OBox.fresh w9 (.slice ad ms0.length cp) 4 0 0)
        have hbz : Below wr.heap.size wr (w9.alloc (.cells #[.slice ad ms0.length cp, .int .i64 4, .int .i64 0, .int .i64 0] 26)) := HBY.out.trans (hf.mono HBY.out.size)
        have HR10 := Lib.hid (HRM.out.below hbz)
        have HB10 := Lib.hid (bnext hb.out hbz)
        clear hf hbz HY9 HY10 HBY hx hb HRM t0 t1 t2 t3
        generalize w9.alloc (.cells #[.slice ad ms0.length cp, .int .i64 4, .int .i64 0, .int .i64 0] 26) = w10 at HZ9 HZ10 HZ11 HR10 HB10 ⊢
        generalize w9.heap.size = B11 at HZ11 ⊢
        have hew := QM.equal_weights (w := 1 + q) (by omega) (by omega) (p := fun x => decide (x ∈ xs)) HMS.out
        have hq1 := fun u w (hw : RdM w (.slice ad ms0.length cp) ms) (hu : RdI w u xs) => cIsQuorum (.slice ad ms0.length cp) u 1 0 0 ms xs w hw hu (QM.errV_zero.2 ⟨by decide, HV.out⟩)
        have hq2 := fun u w (hw : RdM w (.slice ad ms0.length cp) ms) (hu : RdI w u xs) => cIsQuorum (.slice ad ms0.length cp) u 2 0 0 ms xs w hw hu (QM.errV_zero.2 ⟨by decide, HV.out⟩)
        have hq4 := fun u w (hw : RdM w (.slice ad ms0.length cp) ms) (hu : RdI w u xs) => cIsQuorum (.slice ad ms0.length cp) u 4 0 0 ms xs w hw hu (QM.errV_zero.2 ⟨by decide, HV.out⟩)
        rw [hew.1] at hq2
        rw [hew.2] at hq4
        generalize QM.isQ 1 0 0 ms (fun x => decide (x ∈ xs)) = Q at hq1 hq2 hq4
        have HQ1 := Lib.hid hq1
        have HQ2 := Lib.hid hq2
        have HQ4 := Lib.hid hq4
        have hqq : (Q == Q) = true := beq_self_eq_true Q
        clear hq1 hq2 hq4 hew HMS HV
        obtain ⟨m0, m1, m2, m3, _⟩ := (show OBox w10.drew B9 (.slice ad ms0.length cp) 1 0 0 from HZ9.out).cells
        go_cut [12] from 39 to 42 (fun p12 wx => p12 = .bool Q ∧ Hid (Below w10.heap.size w10 wx))
        case first =>
          go_region_law (first
            | (go_simp; go_at_call 24; refine (HC.out w10.drew).mono ?_; rintro e wA ⟨vA, rfl, hoA, hbA⟩; obtain ⟨aA, cA, rfl, _, _⟩ := hoA.rd.shape; obtain ⟨n0, n1, n2, n3, _⟩ := (OBox.below (show OBox w10.drew B9 (.slice ad ms0.length cp) 1 0 0 from HZ9.out) hbA).cells)
            | (go_simp; go_at_call 18; refine (HQ1.out _ wA (RdG.below (show RdM w10.drew _ ms from HR10.out) hbA) hoA.rd).mono ?_; rintro e wB ⟨rfl, hbB⟩))
          all_goals
            go_wp2
            go_meet
            exact ⟨rfl, bnext (Below.trans (b := w10.drew) (below_drewN _ w10 1) hbA) hbB⟩
        case rest =>
          obtain ⟨rfl, hbx⟩ := hcut
          clear m0 m1 m2 m3 HQ1 HZ9
          have HX10 := Lib.hid (HZ10.out.below hbx.out)
          have HX11 := Lib.hid (HZ11.out.below hbx.out)
          have HRX := Lib.hid (HR10.out.below hbx.out)
          have HBX := Lib.hid (bnext HB10.out hbx.out)
          clear HZ10 HZ11 HR10 HB10 hbx
          obtain ⟨m0, m1, m2, m3, _⟩ := (show OBox wc.drew B10 (.slice ad ms0.length cp) 2 0 0 from HX10.out).cells
          have tok1 : True := trivial
          have tok2 : True := trivial
          go_upto_region 12 with fail
          go_region_law (first
            | (go_simp; go_at_call 24; have _t := tok1; clear _t tok1; refine (HC.out wc.drew).mono ?_; rintro e wC ⟨vC, rfl, hoC, hbC⟩; obtain ⟨aC, cC, rfl, _, _⟩ := hoC.rd.shape; obtain ⟨n0, n1, n2, n3, _⟩ := (OBox.below (show OBox wc.drew B10 (.slice ad ms0.length cp) 2 0 0 from HX10.out) hbC).cells)
            | (go_simp; go_at_call 18; have _t := tok2; clear _t tok2; refine (HQ2.out _ wC (RdG.below (show RdM wc.drew _ ms from HRX.out) hbC) hoC.rd).mono ?_; rintro e wD ⟨rfl, hbD⟩; obtain ⟨l0, l1, l2, l3, _⟩ := (OBox.below (OBox.below (show OBox wc.drew B11 (.slice ad ms0.length cp) 4 0 0 from HX11.out) hbC) hbD).cells)
            | (go_simp; go_at_call 24; refine (HC.out wD).mono ?_; rintro e wE ⟨vE, rfl, hoE, hbE⟩; obtain ⟨aE, cE, rfl, _, _⟩ := hoE.rd.shape; obtain ⟨i0, i1, i2, i3, _⟩ := (OBox.below (OBox.below (OBox.below (show OBox wc.drew B11 (.slice ad ms0.length cp) 4 0 0 from HX11.out) hbC) hbD) hbE).cells)
            | (go_simp; go_at_call 18; refine (HQ4.out _ wE (RdG.below (RdG.below (RdG.below (show RdM wc.drew _ ms from HRX.out) hbC) hbD) hbE) hoE.rd).mono ?_; rintro e wF ⟨rfl, hbF⟩)
            | (go_simp; go_at_call 11; refine (HA.out _).mono ?_; rintro e wG ⟨rfl, hbG⟩))
          all_goals
            go_wp2
            go_ret
            exact ⟨rfl, bnext (bnext (bnext (bnext (bnext HBX.out.drew hbC) hbD) hbE) hbF) hbG⟩

end Go.Proofs.Ytbbgjckiooejhaa
