/-
  The program's calls slices.EqualFunc over nodes, slices.Equal over edges and graph.Equal, on equal graphs. Conditions: both read.
-/
import Derived.Test.YtkgkhofkhjgnbaaGreatGCn
namespace Go.Proofs.YtkgkhofkhjgnbaaGreat
open Go.RowKit Go.Joins Go.Shelf
open JM (Chg)
open CM (Fp)
open VM (Ent)

set_option maxRecDepth 100000 in
set_option maxHeartbeats 4000000 in
theorem cEqNodes (va vb : Value) (L : List (List Fp)) (w : World) (ha : RdLs RdF w va L) (hb : RdLs RdF w vb L) (hl : L.length ≤ 1000) :
    Calls Tryz.prog 46 #[va, vb, .func (.func 47) #[] #[]] w fun e w' => e = .returned (.bool true) ∧ Below w.heap.size w w' := by
  obtain ⟨ma, mc, rfl, _, _⟩ := ha.shape
  obtain ⟨na, nc, rfl, _, _⟩ := hb.shape
  have HM := Lib.hid ha
  have HN := Lib.hid hb
  clear ha hb
  generalize hln : L.length = ln at *
  have HLN := Lib.hid hln
  clear hln
  have hne : ((ln : Int) != (ln : Int)) = false := by simp
  go_enter Tryz.func46, Tryz.ntmps46
  go_wp2
  clear hne
  go_loopw [17] (fun ix wr => ∃ i : Nat, i ≤ ln ∧ ix = .int .i64 i ∧ Hid (Below w.heap.size w wr)) (fun ix _ => ln - (intOf ix).toNat)
  case atStart => exact ⟨0, Nat.zero_le _, rfl, Lib.hid (Below.refl _ _)⟩
  case round =>
    obtain ⟨i, hii, rfl, hbw⟩ := hrel
    by_cases hlt : i < ln
    · have hq2 : (i : Int) < (ln : Int) := by omega
      have hat := List.getElem?_eq_getElem (show i < L.length by rw [HLN.out]; exact hlt)
      generalize L[i]'(by rw [HLN.out]; exact hlt) = f at hat
      obtain ⟨mb, mo, mad, ml, mcp, him, hmb, hmc, hmo⟩ := HM.out.at_ cfgE i f hat
      obtain ⟨nb, no, nad, nl, ncp, hin, hnb, hnc, hno⟩ := HN.out.at_ cfgE i f hat
      have hmc := below_cell hbw.out hmc
      have hnc := below_cell hbw.out hnc
      have HG := Lib.hid (gEqual _ _ f f wr (hmo.below hbw.out) (hno.below hbw.out))
      rw [show decide (f = f) = true from decide_eq_true rfl] at HG
      clear hat hmb hmo hnb hno
      go_wp2_with (go_at_call 47; refine HG.out.mono ?_; rintro e w2 ⟨rfl, hq⟩; have hbx := Lib.hid (bnext hbw.out hq); clear hq HG hmc hnc hbw)
      go_roundw
      case rel => exact ⟨i + 1, by omega, by go_num, hbx⟩
      case measure => simp [intOf]; omega
    have hq2 : ¬ ((i : Int) < (ln : Int)) := by omega
    go_wp2
    go_ret
    exact ⟨rfl, hbw.out⟩

set_option maxRecDepth 100000 in
set_option maxHeartbeats 4000000 in
theorem cEqEdges (va vb : Value) (es : List GM.Ed) (w : World) (ha : RdE2 w va es) (hb : RdE2 w vb es) (hl : es.length ≤ 1000000) :
    Calls Tryz.prog 48 #[va, vb] w fun e w' => e = .returned (.bool true) ∧ Below w.heap.size w w' := by
  obtain ⟨xa, xc, rfl, _, _⟩ := ha.shape
  obtain ⟨ya, yc, rfl, _, _⟩ := hb.shape
  have HE := Lib.hid ha
  have HD := Lib.hid hb
  clear ha hb
  generalize hen : es.length = en at *
  have HEN := Lib.hid hen
  clear hen
  have hne : ((en : Int) != (en : Int)) = false := by simp
  go_enter Tryz.func48, Tryz.ntmps48
  go_wp2
  clear hne
  go_loopw [13] (fun ix wr => ∃ i : Nat, i ≤ en ∧ ix = .int .i64 i ∧ Hid (Below w.heap.size w wr)) (fun ix _ => en - (intOf ix).toNat)
  case atStart => exact ⟨0, Nat.zero_le _, rfl, Lib.hid (Below.refl _ _)⟩
  case round =>
    obtain ⟨i, hii, rfl, hbi⟩ := hrel
    by_cases hlt : i < en
    · have hq2 : (i : Int) < (en : Int) := by omega
      have hat := List.getElem?_eq_getElem (show i < es.length by rw [HEN.out]; exact hlt)
      generalize es[i]'(by rw [HEN.out]; exact hlt) = f at hat
      obtain ⟨f1, f2⟩ := f
      obtain ⟨mb, mo, him, hmb, hmc⟩ := HE.out.at_ edgE i _ hat
      obtain ⟨nb, no, hin, hnb, hnc⟩ := HD.out.at_ edgE i _ hat
      have m0 : w.cell? ⟨mb, mo, none⟩ = some (.int .i64 (f1 : Int)) := hmc 0 _ rfl
      have m1 : w.cell? ⟨mb, mo + 1, none⟩ = some (.int .i64 (f2 : Int)) := hmc 1 _ rfl
      have n0 : w.cell? ⟨nb, no, none⟩ = some (.int .i64 (f1 : Int)) := hnc 0 _ rfl
      have n1 : w.cell? ⟨nb, no + 1, none⟩ = some (.int .i64 (f2 : Int)) := hnc 1 _ rfl
      have k1 : ∀ p : Later wr, p.val.cell? ⟨mb, mo, none⟩ = some (.int .i64 (f1 : Int)) := fun p => below_cell (bnext hbi.out p.h) m0
      have k2 : ∀ p : Later wr, p.val.cell? ⟨mb, mo + 1, none⟩ = some (.int .i64 (f2 : Int)) := fun p => below_cell (bnext hbi.out p.h) m1
      have k3 : ∀ p : Later wr, p.val.cell? ⟨nb, no, none⟩ = some (.int .i64 (f1 : Int)) := fun p => below_cell (bnext hbi.out p.h) n0
      have k4 : ∀ p : Later wr, p.val.cell? ⟨nb, no + 1, none⟩ = some (.int .i64 (f2 : Int)) := fun p => below_cell (bnext hbi.out p.h) n1
      have hneq : ∀ w0 : World, (binOp .neq 69 (.agg #[.int .i64 (f1 : Int), .int .i64 (f2 : Int)]) (.agg #[.int .i64 (f1 : Int), .int .i64 (f2 : Int)])).run Tryz.prog w0 = .ok (.bool false) w0 := fun w0 => by rw [neq_e2]; simp
      have hgm : Tryz.prog.eqGuardType Tryz.prog.depth 69 = false := by kernel_rfl
      clear hat hmb hmc hnb hnc m0 m1 n0 n1
      go_wp2
      refine wp_region_later (by kernel_rfl) (by kernel_rfl) ?_
      repeat (go_big_quiet_step (fail))
      refine wpQuiet_nil ?_
      rintro _ ⟨p', rfl⟩
      have hbx := Lib.hid (bnext hbi.out p'.h)
      clear k1 k2 k3 k4
      generalize p'.val = wr2 at hbx ⊢
      clear hbi
      go_wp2
      go_roundw
      case rel => exact ⟨i + 1, by omega, by go_num, hbx⟩
      case measure => simp [intOf]; omega
    have hq2 : ¬ ((i : Int) < (en : Int)) := by omega
    go_wp2
    go_ret
    exact ⟨rfl, hbi.out⟩

set_option maxRecDepth 100000 in
set_option maxHeartbeats 4000000 in
theorem gpEqual (gv hv : Value) (L : List (List Fp)) (w : World) (h : RdGr w gv L) (k : RdGr w hv L) (hl : L.length ≤ 1000) :
    Calls Tryz.prog 19 #[gv, hv] w fun e w' => e = .returned (.bool true) ∧ Below w.heap.size w w' := by
  obtain ⟨mv, ev, rfl, hm, he⟩ := h
  obtain ⟨nv, dv, rfl, hn, hd⟩ := k
  obtain ⟨ma, mc, rfl, _, _⟩ := hm.shape
  obtain ⟨na, nc, rfl, _, _⟩ := hn.shape
  obtain ⟨xa, xc, rfl, _, _⟩ := he.shape
  obtain ⟨ya, yc, rfl, _, _⟩ := hd.shape
  have hel : (IM.edgK L).length ≤ 1000000 := by
    have h1 := IM.edgT_len L L.length
    have h2 : L.length * L.length ≤ 1000 * 1000 := Nat.mul_le_mul hl hl
    exact Nat.le_trans h1 h2
  have HN := Lib.hid (fun wx (hb : Below w.heap.size w wx) => cEqNodes _ _ L wx (hm.below hb (fun _ _ q => q.below hb)) (hn.below hb (fun _ _ q => q.below hb)) hl)
  have HE := Lib.hid (fun wx (hb : Below w.heap.size w wx) => cEqEdges _ _ (IM.edgK L) wx (he.below hb) (hd.below hb) hel)
  clear hm hn he hd hel
  generalize (IM.edgK L).length = en at *
  generalize L.length = ln at *
  have hz := heap_alloc_new (w.alloc (.cells #[.slice ma ln mc, .slice xa en xc] 31)) (.cells #[.slice na ln nc, .slice ya en yc] 31)
  have hy := heap_alloc_new w (.cells #[.slice ma ln mc, .slice xa en xc] 31)
  have b1 := below_fresh w (.cells #[.slice ma ln mc, .slice xa en xc] 31)
  have b2 := below_fresh (w.alloc (.cells #[.slice ma ln mc, .slice xa en xc] 31)) (.cells #[.slice na ln nc, .slice ya en yc] 31)
  rw [World.size_alloc] at hz
  obtain ⟨w0, hw0⟩ : ∃ z, (w.alloc (.cells #[.slice ma ln mc, .slice xa en xc] 31)).alloc (.cells #[.slice na ln nc, .slice ya en yc] 31) = z := ⟨_, rfl⟩
  rw [hw0] at hz b2
  have HY := Lib.hid (below_block hy b2)
  have HZ := Lib.hid hz
  have HB := Lib.hid (bnext b1 b2)
  have HW := Lib.hid hw0
  clear hz hy b1 b2 hw0
  obtain ⟨⟨c0, c1⟩, _⟩ := row2F HY.out
  obtain ⟨⟨c2, c3⟩, _⟩ := row2F HZ.out
  go_enter Tryz.func19, Tryz.ntmps19
  go_upto_region 1 with fail
  rw [HW.out]
  go_wp2_with fail
  refine (HN.out _ HB.out).mono ?_
  rintro e w2 ⟨rfl, hq⟩
  have d1 := below_cell hq c1
  have d3 := below_cell hq c3
  have HB2 := Lib.hid (bnext HB.out hq)
  clear c0 c1 c2 c3 hq HN
  go_wp2_with fail
  refine (HE.out _ HB2.out).mono ?_
  rintro e w3 ⟨rfl, hq⟩
  go_wp2
  go_ret
  exact ⟨rfl, bnext HB2.out hq⟩

end Go.Proofs.YtkgkhofkhjgnbaaGreat
