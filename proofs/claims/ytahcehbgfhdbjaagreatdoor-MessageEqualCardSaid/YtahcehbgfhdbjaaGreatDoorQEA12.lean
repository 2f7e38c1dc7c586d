/-
  The call of the reference's EqualMessage. Conditions: what comes in reads. (Written by mk_nref2.py.)
  The call of the reference's readBases; a message's block that is stored into. Conditions: what comes in reads. (Written by mk_nref2.py.)
-/
import Derived.Test.YtahcehbgfhdbjaaGreatDoorQEA11
import Derived.Test.YtahcehbgfhdbjaaGreatDoorQEA6
import Derived.Test.YtahcehbgfhdbjaaGreatDoorQEA10
namespace Go.Proofs.YtahcehbgfhdbjaaGreatDoor
open Go.RowKit
open NM (Ms)
open VM (Ent)

theorem bnB {a b : Bool} (h : ¬ a = b) : (a != b) = true := by cases a <;> cases b <;> simp_all
/-- Two messages that come in are boxed. -/
theorem twoM (w : World) (m : Ms) (x : Mv) (m' : Ms) (x' : Mv) :
    ∃ w0, (w.alloc (.cells (mcell m x) 33)).alloc (.cells (mcell m' x') 33) = w0 ∧ MB w0 w.heap.size m x ∧ MB w0 (w.heap.size + 1) m' x' ∧ Below w.heap.size w w0 := by
  have b0 := below_fresh w (.cells (mcell m x) 33)
  have x0 := MB.fresh w m x
  have s0 := World.size_alloc w (.cells (mcell m x) 33)
  generalize w.alloc (.cells (mcell m x) 33) = w1 at b0 x0 s0
  have b1 := below_fresh w1 (.cells (mcell m' x') 33)
  have x1 := MB.fresh w1 m' x'
  rw [s0] at x1
  exact ⟨_, rfl, x0.below b1, x1, bnext b0 b1⟩

set_option maxRecDepth 100000 in
set_option maxHeartbeats 8000000 in
theorem rEqM (x : Mv) (m : Ms) (x' : Mv) (m' : Ms) (w : World) (h : RdMs w x m) (h' : RdMs w x' m') :
    Calls Tryz.prog 12 #[mv m x, mv m' x'] w fun e w' => e = .returned (.bool (NM.eqm m m')) ∧ Below w.heap.size w w' := by
  obtain ⟨k, fr, tx, p, n, r, d, cf, ct, bf, bt, hb, ef, et, cg, st, hv, mo⟩ := m
  obtain ⟨s1, s2, s3, s4, s5, s6, s7, s8, s9⟩ := x
  obtain ⟨h1, h2, h3, h4, h5, h6, h7, h8, h9⟩ := h
  dsimp only at h1 h2 h3 h4 h5 h6 h7 h8 h9
  obtain ⟨a1, c1, rfl, _⟩ := h1.shape
  obtain ⟨a2, c2, rfl, _⟩ := h2.shape
  obtain ⟨a3, c3, rfl, _⟩ := h3.shape
  obtain ⟨a4, c4, rfl, _⟩ := h4.shape
  obtain ⟨a5, c5, rfl, _⟩ := h5.shape
  obtain ⟨a6, c6, rfl, _⟩ := h6.shape
  obtain ⟨a7, c7, rfl, _⟩ := h7.shape
  obtain ⟨a8, c8, rfl, _⟩ := h8.shape
  obtain ⟨a9, c9, rfl, _⟩ := h9.shape
  obtain ⟨kz, frz, txz, pz, nz, rz, dz, cfz, ctz, bfz, btz, hbz, efz, etz, cgz, stz, hvz, moz⟩ := m'
  obtain ⟨s1z, s2z, s3z, s4z, s5z, s6z, s7z, s8z, s9z⟩ := x'
  obtain ⟨h1z, h2z, h3z, h4z, h5z, h6z, h7z, h8z, h9z⟩ := h'
  dsimp only at h1z h2z h3z h4z h5z h6z h7z h8z h9z
  obtain ⟨a1z, c1z, rfl, _⟩ := h1z.shape
  obtain ⟨a2z, c2z, rfl, _⟩ := h2z.shape
  obtain ⟨a3z, c3z, rfl, _⟩ := h3z.shape
  obtain ⟨a4z, c4z, rfl, _⟩ := h4z.shape
  obtain ⟨a5z, c5z, rfl, _⟩ := h5z.shape
  obtain ⟨a6z, c6z, rfl, _⟩ := h6z.shape
  obtain ⟨a7z, c7z, rfl, _⟩ := h7z.shape
  obtain ⟨a8z, c8z, rfl, _⟩ := h8z.shape
  obtain ⟨a9z, c9z, rfl, _⟩ := h9z.shape
  obtain ⟨w0, hw0, hX, hY, hb0⟩ := twoM w (⟨k, fr, tx, p, n, r, d, cf, ct, bf, bt, hb, ef, et, cg, st, hv, mo⟩ : Ms) (⟨.slice a1 cf.length c1, .slice a2 ct.length c2, .slice a3 bf.length c3, .slice a4 bt.length c4, .slice a5 ef.length c5, .slice a6 et.length c6, .slice a7 cg.length c7, .slice a8 st.length c8, .slice a9 hv.length c9⟩ : Mv) (⟨kz, frz, txz, pz, nz, rz, dz, cfz, ctz, bfz, btz, hbz, efz, etz, cgz, stz, hvz, moz⟩ : Ms) (⟨.slice a1z cfz.length c1z, .slice a2z ctz.length c2z, .slice a3z bfz.length c3z, .slice a4z btz.length c4z, .slice a5z efz.length c5z, .slice a6z etz.length c6z, .slice a7z cgz.length c7z, .slice a8z stz.length c8z, .slice a9z hvz.length c9z⟩ : Mv)
  have HX := Lib.hid hX
  have HY := Lib.hid hY
  have HB := Lib.hid hb0
  have HW := Lib.hid (show (w.alloc (.cells #[.int .i64 k, .int .i64 fr, .int .i64 tx, .int .i64 p, .int .i64 n, .int .i64 r, .int .i64 d, .slice a1 cf.length c1, .slice a2 ct.length c2, .slice a3 bf.length c3, .slice a4 bt.length c4, .bool hb, .slice a5 ef.length c5, .slice a6 et.length c6, .slice a7 cg.length c7, .slice a8 st.length c8, .slice a9 hv.length c9, .bool mo] 33)).alloc (.cells #[.int .i64 kz, .int .i64 frz, .int .i64 txz, .int .i64 pz, .int .i64 nz, .int .i64 rz, .int .i64 dz, .slice a1z cfz.length c1z, .slice a2z ctz.length c2z, .slice a3z bfz.length c3z, .slice a4z btz.length c4z, .bool hbz, .slice a5z efz.length c5z, .slice a6z etz.length c6z, .slice a7z cgz.length c7z, .slice a8z stz.length c8z, .slice a9z hvz.length c9z, .bool moz] 33) = w0 from hw0)
  replace h1 := h1.below hb0
  replace h1z := h1z.below hb0
  replace h2 := h2.below hb0
  replace h2z := h2z.below hb0
  replace h3 := h3.below hb0
  replace h3z := h3z.below hb0
  replace h4 := h4.below hb0
  replace h4z := h4z.below hb0
  replace h5 := h5.below hb0
  replace h5z := h5z.below hb0
  replace h6 := h6.below hb0
  replace h6z := h6z.below hb0
  replace h7 := h7.below hb0
  replace h7z := h7z.below hb0
  replace h8 := h8.below hb0
  replace h8z := h8z.below hb0
  replace h9 := h9.below hb0
  replace h9z := h9z.below hb0
  obtain ⟨R, hR⟩ : ∃ R, R = NM.eqm (⟨k, fr, tx, p, n, r, d, cf, ct, bf, bt, hb, ef, et, cg, st, hv, mo⟩ : Ms) (⟨kz, frz, txz, pz, nz, rz, dz, cfz, ctz, bfz, btz, hbz, efz, etz, cgz, stz, hvz, moz⟩ : Ms) := ⟨_, rfl⟩
  rw [← hR]
  unfold NM.eqm NM.scal at hR
  dsimp only at hR
  have HC1 := Lib.hid (fun w' (g : Below w0.heap.size w0 w') => rEqualCert _ _ _ _ cf ct cfz ctz w' (h1.below g) (h2.below g) (h1z.below g) (h2z.below g))
  have HC2 := Lib.hid (fun w' (g : Below w0.heap.size w0 w') => rEqualCert _ _ _ _ bf bt bfz btz w' (h3.below g) (h4.below g) (h3z.below g) (h4z.below g))
  have HC3 := Lib.hid (fun w' (g : Below w0.heap.size w0 w') => rEqualCert _ _ _ _ ef et efz etz w' (h5.below g) (h6.below g) (h5z.below g) (h6z.below g))
  have HC4 := Lib.hid (fun w' (g : Below w0.heap.size w0 w') => rEqualConfig _ _ cg cgz w' (h7.below g) (h7z.below g))
  have HC5 := Lib.hid (fun w' (g : Below w0.heap.size w0 w') => ST.rEqualState _ _ st stz w' (h8.below g) (h8z.below g))
  have HC6 := Lib.hid (fun w' (g : Below w0.heap.size w0 w') => VX.rEqual _ _ hv hvz w' (h9.below g) (h9z.below g))
  generalize (decide (cf = cfz) && decide (ct = ctz)) = B1 at hR HC1
  generalize (decide (bf = bfz) && decide (bt = btz)) = B2 at hR HC2
  generalize (decide (ef = efz) && decide (et = etz)) = B3 at hR HC3
  generalize decide (cg = cgz) = B4 at hR HC4
  generalize decide (st = stz) = B5 at hR HC5
  generalize decide (hv = hvz) = B6 at hR HC6
  have hgm : Tryz.prog.eqGuardType Tryz.prog.depth 23 = false := by kernel_rfl
  clear h1 h2 h3 h4 h5 h6 h7 h8 h9 h1z h2z h3z h4z h5z h6z h7z h8z h9z hb0 hX hY hw0
  dsimp only [mv, mcell]
  have HRR := Lib.hid hR
  clear hR
  go_enter Tryz.func12, Tryz.ntmps12
  go_upto_region 1 with fail
  rw [HW.out]
  have HBW := Lib.hid (Below.refl w0.heap.size w0)
  have xs := HX.out.cells
  dsimp only at xs
  have ys := HY.out.cells
  dsimp only at ys
  by_cases qk : k = kz
  case neg =>
    have gk : (k != kz) = true := bne_t qk
    have HR := Lib.hid (show R = false by rw [HRR.out]; simp [qk])
    clear HRR
    go_wp2
    go_ret
    rw [HR.out]
    exact ⟨rfl, bnext HB.out HBW.out⟩
  subst qk
  have gk : (k != k) = false := bne_f rfl
  by_cases qfr : fr = frz
  case neg =>
    have gfr : (fr != frz) = true := bne_t qfr
    have HR := Lib.hid (show R = false by rw [HRR.out]; simp [qfr])
    clear HRR
    go_wp2
    go_ret
    rw [HR.out]
    exact ⟨rfl, bnext HB.out HBW.out⟩
  subst qfr
  have gfr : (fr != fr) = false := bne_f rfl
  by_cases qtx : tx = txz
  case neg =>
    have gtx : (tx != txz) = true := bne_t qtx
    have HR := Lib.hid (show R = false by rw [HRR.out]; simp [qtx])
    clear HRR
    go_wp2
    go_ret
    rw [HR.out]
    exact ⟨rfl, bnext HB.out HBW.out⟩
  subst qtx
  have gtx : (tx != tx) = false := bne_f rfl
  by_cases q4 : p = pz ∧ n = nz
  case neg =>
    have hneq : ∀ w0 : World, (binOp .neq 23 (.agg #[.int .i64 p, .int .i64 n]) (.agg #[.int .i64 pz, .int .i64 nz])).run Tryz.prog w0 = .ok (.bool true) w0 := fun w0 => by rw [neq_acc, decide_eq_false q4]; rfl
    have HR := Lib.hid (show R = false by rw [HRR.out]; simp [q4])
    clear HRR
    go_wp2
    go_ret
    rw [HR.out]
    exact ⟨rfl, bnext HB.out HBW.out⟩
  have hneq : ∀ w0 : World, (binOp .neq 23 (.agg #[.int .i64 p, .int .i64 n]) (.agg #[.int .i64 pz, .int .i64 nz])).run Tryz.prog w0 = .ok (.bool false) w0 := fun w0 => by rw [neq_acc, decide_eq_true q4]; rfl
  obtain ⟨rfl, rfl⟩ := q4
  by_cases qr : r = rz
  case neg =>
    have gr : (r != rz) = true := bne_t qr
    have HR := Lib.hid (show R = false by rw [HRR.out]; simp [qr])
    clear HRR
    go_wp2
    go_ret
    rw [HR.out]
    exact ⟨rfl, bnext HB.out HBW.out⟩
  subst qr
  have gr : (r != r) = false := bne_f rfl
  by_cases qd : d = dz
  case neg =>
    have gd : (d != dz) = true := bne_t qd
    have HR := Lib.hid (show R = false by rw [HRR.out]; simp [qd])
    clear HRR
    go_wp2
    go_ret
    rw [HR.out]
    exact ⟨rfl, bnext HB.out HBW.out⟩
  subst qd
  have gd : (d != d) = false := bne_f rfl
  by_cases qhb : hb = hbz
  case neg =>
    cases hb
    · cases hbz
      · exact absurd rfl qhb
      · have HR := Lib.hid (show R = false by rw [HRR.out]; simp)
        clear HRR
        go_wp2
        go_ret
        rw [HR.out]
        exact ⟨rfl, bnext HB.out HBW.out⟩
    · cases hbz
      · have HR := Lib.hid (show R = false by rw [HRR.out]; simp)
        clear HRR
        go_wp2
        go_ret
        rw [HR.out]
        exact ⟨rfl, bnext HB.out HBW.out⟩
      · exact absurd rfl qhb
  subst qhb
  have ghb : (hb != hb) = false := by cases hb <;> rfl
  by_cases qmo : mo = moz
  case neg =>
    cases mo
    · cases moz
      · exact absurd rfl qmo
      · have HR := Lib.hid (show R = false by rw [HRR.out]; simp)
        clear HRR
        go_wp2
        go_ret
        rw [HR.out]
        exact ⟨rfl, bnext HB.out HBW.out⟩
    · cases moz
      · have HR := Lib.hid (show R = false by rw [HRR.out]; simp)
        clear HRR
        go_wp2
        go_ret
        rw [HR.out]
        exact ⟨rfl, bnext HB.out HBW.out⟩
      · exact absurd rfl qmo
  subst qmo
  have gmo : (mo != mo) = false := by cases mo <;> rfl
  go_wp2_with fail
  refine (HC1.out w0 HBW.out).mono ?_
  rintro e w1 ⟨rfl, hb1⟩
  clear xs
  clear ys
  replace HX := Lib.hid (HX.out.below hb1)
  replace HY := Lib.hid (HY.out.below hb1)
  replace HBW := Lib.hid (bnext HBW.out hb1)
  clear hb1
  have xs := HX.out.cells
  dsimp only at xs
  have ys := HY.out.cells
  dsimp only at ys
  rcases Bool.eq_false_or_eq_true B1 with rfl | rfl
  rotate_left
  · have HR := Lib.hid (show R = false by rw [HRR.out]; simp)
    clear HRR
    go_wp2
    go_ret
    rw [HR.out]
    exact ⟨rfl, bnext HB.out HBW.out⟩
  go_wp2_with fail
  refine (HC2.out w1 HBW.out).mono ?_
  rintro e w2 ⟨rfl, hb1⟩
  clear xs
  clear ys
  replace HX := Lib.hid (HX.out.below hb1)
  replace HY := Lib.hid (HY.out.below hb1)
  replace HBW := Lib.hid (bnext HBW.out hb1)
  clear hb1
  have xs := HX.out.cells
  dsimp only at xs
  have ys := HY.out.cells
  dsimp only at ys
  rcases Bool.eq_false_or_eq_true B2 with rfl | rfl
  rotate_left
  · have HR := Lib.hid (show R = false by rw [HRR.out]; simp)
    clear HRR
    go_wp2
    go_ret
    rw [HR.out]
    exact ⟨rfl, bnext HB.out HBW.out⟩
  go_wp2_with fail
  refine (HC3.out w2 HBW.out).mono ?_
  rintro e w3 ⟨rfl, hb1⟩
  clear xs
  clear ys
  replace HX := Lib.hid (HX.out.below hb1)
  replace HY := Lib.hid (HY.out.below hb1)
  replace HBW := Lib.hid (bnext HBW.out hb1)
  clear hb1
  have xs := HX.out.cells
  dsimp only at xs
  have ys := HY.out.cells
  dsimp only at ys
  rcases Bool.eq_false_or_eq_true B3 with rfl | rfl
  rotate_left
  · have HR := Lib.hid (show R = false by rw [HRR.out]; simp)
    clear HRR
    go_wp2
    go_ret
    rw [HR.out]
    exact ⟨rfl, bnext HB.out HBW.out⟩
  go_wp2_with fail
  refine (HC4.out w3 HBW.out).mono ?_
  rintro e w4 ⟨rfl, hb1⟩
  clear xs
  clear ys
  replace HX := Lib.hid (HX.out.below hb1)
  replace HY := Lib.hid (HY.out.below hb1)
  replace HBW := Lib.hid (bnext HBW.out hb1)
  clear hb1
  have xs := HX.out.cells
  dsimp only at xs
  have ys := HY.out.cells
  dsimp only at ys
  rcases Bool.eq_false_or_eq_true B4 with rfl | rfl
  rotate_left
  · have HR := Lib.hid (show R = false by rw [HRR.out]; simp)
    clear HRR
    go_wp2
    go_ret
    rw [HR.out]
    exact ⟨rfl, bnext HB.out HBW.out⟩
  go_wp2_with fail
  refine (HC5.out w4 HBW.out).mono ?_
  rintro e w5 ⟨rfl, hb1⟩
  clear xs
  clear ys
  replace HX := Lib.hid (HX.out.below hb1)
  replace HY := Lib.hid (HY.out.below hb1)
  replace HBW := Lib.hid (bnext HBW.out hb1)
  clear hb1
  have xs := HX.out.cells
  dsimp only at xs
  have ys := HY.out.cells
  dsimp only at ys
  rcases Bool.eq_false_or_eq_true B5 with rfl | rfl
  rotate_left
  · have HR := Lib.hid (show R = false by rw [HRR.out]; simp)
    clear HRR
    go_wp2
    go_ret
    rw [HR.out]
    exact ⟨rfl, bnext HB.out HBW.out⟩
  go_wp2_with fail
  refine (HC6.out w5 HBW.out).mono ?_
  rintro e w6 ⟨rfl, hb1⟩
  clear xs
  clear ys
  replace HX := Lib.hid (HX.out.below hb1)
  replace HY := Lib.hid (HY.out.below hb1)
  replace HBW := Lib.hid (bnext HBW.out hb1)
  clear hb1
  have xs := HX.out.cells
  dsimp only at xs
  have ys := HY.out.cells
  dsimp only at ys
  rcases Bool.eq_false_or_eq_true B6 with rfl | rfl
  rotate_left
  · have HR := Lib.hid (show R = false by rw [HRR.out]; simp)
    clear HRR
    go_wp2
    go_ret
    rw [HR.out]
    exact ⟨rfl, bnext HB.out HBW.out⟩
  have HR := Lib.hid (show R = true by rw [HRR.out]; simp)
  clear HRR
  go_wp2
  go_ret
  rw [HR.out]
  exact ⟨rfl, bnext HB.out HBW.out⟩

end Go.Proofs.YtahcehbgfhdbjaaGreatDoor

namespace Go.Proofs.YtahcehbgfhdbjaaGreatDoor
open Go.RowKit
open NM (Ms)
open VM (Ent)

theorem onlyRow (w : World) (g : Nat) (cs : Array Value) : Only g w (w.setRow g cs) := ⟨rfl, rfl, rfl, by simp, fun _ _ h => setRow_other _ _ _ _ h⟩
theorem MB.put {w : World} {g : Nat} {m : Ms} {x : Mv} (h : MB w g m x) (m' : Ms) (x' : Mv) : MB (w.setRow g (mcell m' x')) g m' x' := setRow_heap w g _ _ _ _ h
theorem MB.setBase {w : World} {g : Nat} {m : Ms} {x : Mv} (h : MB w g m x) (bf bt : List CM.Fp) (a b : Value) : MB ((w.setCell ⟨g, 9, none⟩ a).setCell ⟨g, 10, none⟩ b) g { m with bf := bf, bt := bt } { x with bf := a, bt := b } := by
  have h1 : (w.setCell ⟨g, 9, none⟩ a).heap[g]? = some (.cells (mcell { m with bf := bf } { x with bf := a }) 33 (0, 0)) := heap_setCell_same w g 9 _ _ _ h
  exact heap_setCell_same _ g 10 _ _ _ h1
theorem MB.setEst {w : World} {g : Nat} {m : Ms} {x : Mv} (h : MB w g m x) (ef et : List CM.Fp) (a b : Value) : MB ((w.setCell ⟨g, 12, none⟩ a).setCell ⟨g, 13, none⟩ b) g { m with ef := ef, et := et } { x with ef := a, et := b } := by
  have h1 : (w.setCell ⟨g, 12, none⟩ a).heap[g]? = some (.cells (mcell { m with ef := ef } { x with ef := a }) 33 (0, 0)) := heap_setCell_same w g 12 _ _ _ h
  exact heap_setCell_same _ g 13 _ _ _ h1
theorem run_storeCells_row (w : World) (g : Nat) (t : TypeId) (old cells : Array Value) (hg : w.heap[g]? = some (.cells old t (0, 0))) (ho : old.size = cells.size) (h1 : cells.all (·.oneCell') = true) :
    (storeCells ⟨g, 0, none⟩ cells.toList).run Tryz.prog w = .ok () (w.setRow g cells) := by
  have := run_storeCells_from (P := Tryz.prog) g t cells.toList 0 old w hg (by simp; omega) (fun v hv => (Array.all_eq_true_iff_forall_mem.1 h1) v (by simpa using hv))
  simpa using this
theorem onlyTwo {w : World} {g i j : Nat} (a b : Value) : Only g w ((w.setCell ⟨g, i, none⟩ a).setCell ⟨g, j, none⟩ b) := (Only.set i a).trans (Only.set j b)
/-- A message that lies in a block of its own, with two numbers behind it. -/
theorem msgRet3 {fn : Func} {p u q : Tmp} {R : Ending → World → Prop} {a : Act} {w : World} {g : Nat} {m : Ms} {x : Mv} {n er : Int} (h : fn.results = #[.cell p 33, .tmp u, .tmp q]) (hp : a.tmps.getD p undef = .pointer (some ⟨g, 0, none⟩))
    (h3 : a.tmps.getD u undef = .int .i64 n) (h4 : a.tmps.getD q undef = .int .i64 er) (hg : MB w g m x) (hd : a.defers = []) (hR : R (.returned (.tuple #[mv m x, .int .i64 n, .int .i64 er])) w) : bodyPost Tryz.prog fn R .ret a w := by
  have := results_cell_tmp_tmp (P := Tryz.prog) (fn := fn) h a.tmps w g 33 _ _ _ hp hg Tryz.underlying33 rfl (by kernel_rfl)
  rw [h3, h4] at this
  exact bodyPost_ret this hd hR
theorem decC_used {xs : List Int} (hb : WM.Bytes xs) : (CM.decC xs).2.1 ≤ xs.length := by
  have h1 := CM.decL_used hb
  have h2 := CM.decL_used (xs := xs.drop (CM.decL xs).2.1) (fun c hc => hb c (List.mem_of_mem_drop hc))
  rw [List.length_drop] at h2
  unfold CM.decC
  split
  · exact Nat.zero_le _
  · split
    · exact Nat.zero_le _
    · split
      · exact Nat.zero_le _
      · show (CM.decL xs).2.1 + _ ≤ _
        omega
/-- What readBases puts into a message: slices of the call's own; the others stay. -/
structure NewB (base : Nat) (w : World) (x x' : Mv) (m' : Ms) : Prop where
  cf : x'.cf = x.cf
  ct : x'.ct = x.ct
  cg : x'.cg = x.cg
  st : x'.st = x.st
  hv : x'.hv = x.hv
  bf : OwnR base w x'.bf m'.bf
  bt : OwnR base w x'.bt m'.bt
  ef : OwnR base w x'.ef m'.ef
  et : OwnR base w x'.et m'.et
/-- All slices of a message are slices. -/
structure SlX (x : Mv) : Prop where
  cf : ∃ a l c, x.cf = .slice a l c
  ct : ∃ a l c, x.ct = .slice a l c
  bf : ∃ a l c, x.bf = .slice a l c
  bt : ∃ a l c, x.bt = .slice a l c
  ef : ∃ a l c, x.ef = .slice a l c
  et : ∃ a l c, x.et = .slice a l c
  cg : ∃ a l c, x.cg = .slice a l c
  st : ∃ a l c, x.st = .slice a l c
  hv : ∃ a l c, x.hv = .slice a l c
theorem decB_two (xs : List Int) : (∃ e : Int, e ≠ 0 ∧ decB xs = (false, 0, e)) ∨ (∃ b : Bool, decB xs = (b, 1, 0) ∧ 1 ≤ xs.length) := by
  cases xs with
  | nil => exact .inl ⟨1, by decide, rfl⟩
  | cons c r =>
    by_cases h : 1 < c
    · exact .inl ⟨2, by decide, if_pos h⟩
    · exact .inr ⟨c == 1, if_neg h, by simp⟩

end Go.Proofs.YtahcehbgfhdbjaaGreatDoor
