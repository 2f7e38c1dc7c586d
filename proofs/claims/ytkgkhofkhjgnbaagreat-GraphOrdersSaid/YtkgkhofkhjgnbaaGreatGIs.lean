/-
  The law's call 'is': the graph that reads as the nodes L with their edges has exactly the nodes L, and their edges. Conditions: both read.
-/
import Derived.Test.YtkgkhofkhjgnbaaGreatGWay
import Derived.ChangeKeysEq
namespace Go.Proofs.YtkgkhofkhjgnbaaGreat
open Go.RowKit Go.Joins Go.Shelf
open JM (Chg)
open CM (Fp)
open VM (Ent)

/-- The value v is a graph with the nodes L and the edges that they have. -/
def RdGr (w : World) (v : Value) (L : List (List Fp)) : Prop := ∃ nv ev, v = .agg #[nv, ev] ∧ RdLs RdF w nv L ∧ RdE2 w ev (IM.edgK L)
theorem RdGr.below {w w' : World} {v : Value} {L : List (List Fp)} (h : RdGr w v L) (hb : Below w.heap.size w w') : RdGr w' v L := by
  obtain ⟨nv, ev, rfl, h1, h2⟩ := h
  exact ⟨nv, ev, rfl, h1.below hb (fun _ _ q => q.below hb), h2.below hb⟩

/-- '!=' of two pairs. -/
theorem neq_e2 (x n y m : Int) (w : World) : (binOp .neq 69 (.agg #[.int .i64 x, .int .i64 n]) (.agg #[.int .i64 y, .int .i64 m])).run Tryz.prog w = .ok (.bool (!(decide (x = y) && decide (n = m)))) w := by
  have u3 := Tryz.underlying3
  have a3 := Tryz.isAgg3
  have z3 := Tryz.sizeOf3
  have hS : Tryz.prog.underlying 69 = some (.array 2 3) := by kernel_rfl
  have hc : Tryz.prog.cellsOf 3 = 1 := by kernel_rfl
  obtain ⟨i0, hi, _⟩ := info_parts (show (Tryz.prog.info? 3).map (fun i => (i.zero, i.size, i.bytes)) = some (some (.int .i64 0), 1, 8) by kernel_rfl)
  rw [run_neq_struct, show (10000 : Nat) = 9999 + 1 from rfl, run_equalIn_array w 9999 _ _ hS hi, hc]
  rw [show List.range 2 = [0, 1] from rfl]
  simp only [Op.eqItems]
  go_simp
  by_cases h1 : x = y <;> by_cases h2 : n = m <;> simp [h1, h2]

set_option maxRecDepth 100000 in
set_option maxHeartbeats 8000000 in
theorem gIs (gv nv : Value) (L : List (List Fp)) (w : World) (h : RdGr w gv L) (hn : RdLs RdF w nv L) (hl : L.length ≤ 1000) (hls : ∀ f ∈ L, f.length ≤ 1000) :
    Calls Tryz.prog 11 #[gv, nv] w fun e w' => e = .returned (.bool true) ∧ Below w.heap.size w w' := by
  obtain ⟨mv, ev, rfl, hm, he⟩ := h
  obtain ⟨ma, mc, rfl, _, _⟩ := hm.shape
  obtain ⟨na, nc, rfl, _, _⟩ := hn.shape
  obtain ⟨xa, xc, rfl, _, _⟩ := he.shape
  have HM := Lib.hid hm
  have HN := Lib.hid hn
  have HE := Lib.hid he
  have HED := Lib.hid (fun (wx : World) (hb : Below w.heap.size w wx) => rEdges _ L wx (hn.below hb (fun _ _ q => q.below hb)) hl hls)
  have HEL := Lib.hid (show (IM.edgK L).length ≤ 1000000 by
    have h1 := IM.edgT_len L L.length
    have h2 : L.length * L.length ≤ 1000 * 1000 := Nat.mul_le_mul hl hl
    exact Nat.le_trans h1 h2)
  generalize IM.edgK L = es at *
  generalize hen : es.length = en at *
  have HEN := Lib.hid hen
  clear hen
  generalize hln : L.length = ln at *
  have HLN := Lib.hid hln
  clear hln
  clear hm hn he hls
  go_enter Tryz.func11, Tryz.ntmps11
  go_wp2_with fail
  obtain ⟨wa, hwa⟩ : ∃ wa, wa = w.alloc (.cells #[.slice ma ln mc, .slice xa en xc] 31) := ⟨_, rfl⟩
  have HBA := Lib.hid (show Below w.heap.size w wa by rw [hwa]; exact below_fresh w _)
  have ka0 : wa.cell? ⟨w.heap.size, 0, none⟩ = some (.slice ma ln mc) := by rw [hwa]; exact World.cell?_alloc_new _ _ _ 0
  have ka1 : wa.cell? ⟨w.heap.size, 1, none⟩ = some (.slice xa en xc) := by rw [hwa]; exact World.cell?_alloc_new _ _ _ 1
  rw [← hwa]
  clear hwa
  have HKA := Lib.hid (fun (wx : World) (hb : Below wa.heap.size wa wx) => (⟨below_cell hb ka0, below_cell hb ka1⟩ : wx.cell? ⟨w.heap.size, 0, none⟩ = some (.slice ma ln mc) ∧ wx.cell? ⟨w.heap.size, 1, none⟩ = some (.slice xa en xc)))
  clear ka0 ka1
  refine (HED.out wa HBA.out).mono ?_
  rintro e w1 ⟨v1, rfl, ho1, hb1⟩
  obtain ⟨ya, yc, hyv, _, _⟩ := ho1.rd.shape
  rw [HEN.out] at hyv
  subst hyv
  have HO1 := Lib.hid ho1.rd
  have HB1 := Lib.hid hb1
  obtain ⟨c0, c1⟩ := HKA.out w1 hb1
  have hne1 : ((ln : Int) != (ln : Int)) = false := by simp
  have hne2 : ((en : Int) != (en : Int)) = false := by simp
  have hln : ln ≤ 1000 := hl
  have hen : en ≤ 1000000 := HEL.out
  clear ho1 hb1 HED HEL hl
  go_wp2
  clear hne1 hne2 c0 c1
  go_loopw [6] (fun ix wr => ∃ i : Nat, i ≤ ln ∧ ix = .int .i64 i ∧ Hid (Below w1.heap.size w1 wr)) (fun ix _ => ln - (intOf ix).toNat)
  case atStart => exact ⟨0, Nat.zero_le _, rfl, Lib.hid (Below.refl _ _)⟩
  case round =>
    obtain ⟨i, hii, rfl, hbw⟩ := hrel
    by_cases hlt : i < ln
    · have hq2 : (i : Int) < (ln : Int) := by omega
      have hat := List.getElem?_eq_getElem (show i < L.length by rw [HLN.out]; exact hlt)
      generalize L[i]'(by rw [HLN.out]; exact hlt) = f at hat
      obtain ⟨mb, mo, mad, ml, mcp, him, hmb, hmc, hmo⟩ := HM.out.at_ cfgE i f hat
      obtain ⟨nb, no, nad, nl, ncp, hin, hnb, hnc, hno⟩ := HN.out.at_ cfgE i f hat
      have HBW := Lib.hid (show Below w.heap.size w wr from bnext HBA.out (bnext HB1.out hbw.out))
      have k0 : ∀ p : Later wr, p.val.cell? ⟨w.heap.size, 0, none⟩ = some (.slice ma ln mc) := fun p => (HKA.out _ (bnext HB1.out (bnext hbw.out p.h))).1
      have k1 : ∀ p : Later wr, p.val.cell? ⟨mb, mo, none⟩ = some (.slice mad ml mcp) := fun p => below_cell (bnext HBW.out p.h) hmc
      have k2 : ∀ p : Later wr, p.val.cell? ⟨nb, no, none⟩ = some (.slice nad nl ncp) := fun p => below_cell (bnext HBW.out p.h) hnc
      have HG := Lib.hid (fun p : Later wr => Calls.later (rEqualConfig _ _ f f p.val (hmo.below (bnext HBW.out p.h)) (hno.below (bnext HBW.out p.h))))
      rw [show decide (f = f) = true from decide_eq_true rfl] at HG
      clear hat hmb hmc hmo hnb hnc hno
      go_wp2
      refine wp_region_later (by kernel_rfl) (by kernel_rfl) ?_
      repeat (go_big_quiet_step (first | (go_at_call 36; with_reducible exact HG.out _)))
      refine wpQuiet_nil ?_
      rintro _ ⟨p', rfl⟩
      have hbx := Lib.hid (bnext hbw.out p'.h)
      clear HG k0 k1 k2 HBW
      generalize p'.val = wr2 at hbx ⊢
      clear hbw
      go_wp2
      go_roundw
      case rel => exact ⟨i + 1, by omega, by go_num, hbx⟩
      case measure => simp [intOf]; omega
    have hq2 : ¬ ((i : Int) < (ln : Int)) := by omega
    have HB2 := Lib.hid (bnext HB1.out hbw.out)
    have HB3 := Lib.hid hbw.out
    obtain ⟨wo, hwo⟩ : ∃ wo, wo = wr := ⟨_, rfl⟩
    rw [← hwo] at HB2 HB3 ⊢
    clear hbw hwo HN HM HB1
    go_wp2
    go_loopw [7] (fun ix wr => ∃ i : Nat, i ≤ en ∧ ix = .int .i64 i ∧ Hid (Below wo.heap.size wo wr)) (fun ix _ => en - (intOf ix).toNat)
    case atStart => exact ⟨0, Nat.zero_le _, rfl, Lib.hid (Below.refl _ _)⟩
    case round =>
      obtain ⟨i, hii, rfl, hbw⟩ := hrel
      by_cases hlt : i < en
      · have hq2 : (i : Int) < (en : Int) := by omega
        have hat := List.getElem?_eq_getElem (show i < es.length by rw [HEN.out]; exact hlt)
        generalize es[i]'(by rw [HEN.out]; exact hlt) = f at hat
        obtain ⟨f1, f2⟩ := f
        obtain ⟨mb, mo, him, hmb, hmc⟩ := HE.out.at_ edgE i _ hat
        obtain ⟨nb, no, hin, hnb, hnc⟩ := HO1.out.at_ edgE i _ hat
        have m0 : w.cell? ⟨mb, mo, none⟩ = some (.int .i64 (f1 : Int)) := hmc 0 _ rfl
        have m1 : w.cell? ⟨mb, mo + 1, none⟩ = some (.int .i64 (f2 : Int)) := hmc 1 _ rfl
        have n0 : w1.cell? ⟨nb, no, none⟩ = some (.int .i64 (f1 : Int)) := hnc 0 _ rfl
        have n1 : w1.cell? ⟨nb, no + 1, none⟩ = some (.int .i64 (f2 : Int)) := hnc 1 _ rfl
        have HBW := Lib.hid (show Below w.heap.size w wr from bnext HBA.out (bnext HB2.out hbw.out))
        have HBV := Lib.hid (show Below w1.heap.size w1 wr from bnext HB3.out hbw.out)
        have k0 : ∀ p : Later wr, p.val.cell? ⟨w.heap.size, 1, none⟩ = some (.slice xa en xc) := fun p => (HKA.out _ (bnext HB2.out (bnext hbw.out p.h))).2
        have k1 : ∀ p : Later wr, p.val.cell? ⟨mb, mo, none⟩ = some (.int .i64 (f1 : Int)) := fun p => below_cell (bnext HBW.out p.h) m0
        have k2 : ∀ p : Later wr, p.val.cell? ⟨mb, mo + 1, none⟩ = some (.int .i64 (f2 : Int)) := fun p => below_cell (bnext HBW.out p.h) m1
        have k3 : ∀ p : Later wr, p.val.cell? ⟨nb, no, none⟩ = some (.int .i64 (f1 : Int)) := fun p => below_cell (bnext HBV.out p.h) n0
        have k4 : ∀ p : Later wr, p.val.cell? ⟨nb, no + 1, none⟩ = some (.int .i64 (f2 : Int)) := fun p => below_cell (bnext HBV.out p.h) n1
        have hneq : ∀ w0 : World, (binOp .neq 69 (.agg #[.int .i64 (f1 : Int), .int .i64 (f2 : Int)]) (.agg #[.int .i64 (f1 : Int), .int .i64 (f2 : Int)])).run Tryz.prog w0 = .ok (.bool false) w0 := fun w0 => by rw [neq_e2]; simp
        have hgm : Tryz.prog.eqGuardType Tryz.prog.depth 69 = false := by kernel_rfl
        clear hat hmb hmc hnb hnc m0 m1 n0 n1
        go_wp2
        refine wp_region_later (by kernel_rfl) (by kernel_rfl) ?_
        repeat (go_big_quiet_step (fail))
        refine wpQuiet_nil ?_
        rintro _ ⟨p', rfl⟩
        have hbx := Lib.hid (bnext hbw.out p'.h)
        clear k0 k1 k2 k3 k4 HBW HBV
        generalize p'.val = wr2 at hbx ⊢
        clear hbw
        go_wp2
        go_roundw
        case rel => exact ⟨i + 1, by omega, by go_num, hbx⟩
        case measure => simp [intOf]; omega
      have hq2 : ¬ ((i : Int) < (en : Int)) := by omega
      have HB4 := Lib.hid (bnext HBA.out (bnext HB2.out hbw.out))
      clear hbw HB2 HB3
      go_wp2
      go_ret
      exact ⟨rfl, HB4.out⟩

end Go.Proofs.YtkgkhofkhjgnbaaGreat
