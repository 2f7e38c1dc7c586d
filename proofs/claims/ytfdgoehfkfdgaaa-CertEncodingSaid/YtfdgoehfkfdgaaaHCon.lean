/-
  What package cert's functions give, as a structure of contracts; the laws' awake. Conditions: the contracts hold. (Written by mk_hcon.py.)
-/
import Derived.Test.YtfdgoehfkfdgaaaHDec
import Derived.Test.YtfdgoehfkfdgaaaHKit
namespace Go.Proofs.Ytfdgoehfkfdgaaa
open Go.RowKit
open JM (Chg)
open CM (Fp)

/-- Two certificates are valid, and their configurations agree. -/
structure Gd (f t f' t' : List Fp) : Prop where
  e1 : CM.errC f t = 0
  e2 : CM.errC f' t' = 0
  a1 : CM.Agr f f'
  a2 : CM.Agr f t'
  a3 : CM.Agr t f'
  a4 : CM.Agr t t'
theorem Gd.symm {f t f' t' : List Fp} (h : Gd f t f' t') : Gd f' t' f t := ⟨h.e2, h.e1, h.a1.symm, h.a3.symm, h.a2.symm, h.a4.symm⟩

structure CT : Prop where
  validate : ∀ (a b : Value) (f t : List Fp) (w : World), RdF w a f → RdF w b t → Calls Try.prog 10 #[cev a b] w fun e w' => e = .returned (.int .i64 (CM.errC f t)) ∧ Below w.heap.size w w'
  equal : ∀ (a b c d : Value) (f t f' t' : List Fp) (w : World), RdF w a f → RdF w b t → RdF w c f' → RdF w d t' → Calls Try.prog 13 #[cev a b, cev c d] w fun e w' => e = .returned (.bool (decide (f = f') && decide (t = t'))) ∧ Below w.heap.size w w'
  newer : ∀ (a b c d : Value) (f t f' t' : List Fp) (w : World), RdF w a f → RdF w b t → RdF w c f' → RdF w d t' → Gd f t f' t' → Calls Try.prog 15 #[cev a b, cev c d] w fun e w' => e = .returned (.bool (CM.newr t t')) ∧ Below w.heap.size w w'
  latest : ∀ (a b c d : Value) (f t f' t' : List Fp) (w : World), RdF w a f → RdF w b t → RdF w c f' → RdF w d t' → Gd f t f' t' → Calls Try.prog 17 #[cev a b, cev c d] w fun e w' => ∃ x y, e = .returned (cev x y) ∧ RdF w' x (CM.latF f t f' t') ∧ RdF w' y (CM.latT t t') ∧ Below w.heap.size w w'
  start : ∀ (a b c d : Value) (f t f' t' : List Fp) (w : World), RdF w a f → RdF w b t → RdF w c f' → RdF w d t' → Gd f t f' t' → Calls Try.prog 20 #[cev a b, cev c d] w fun e w' => ∃ x, e = .returned x ∧ RdF w' x (CM.strt f t t') ∧ Below w.heap.size w w'
  append : ∀ (v : Value) (bs : List Int) (a b : Value) (f t : List Fp) (w : World), Rd w v bs → RdF w a f → RdF w b t → CM.errC f t = 0 → bs.length ≤ 1000 → Calls Try.prog 28 #[v, cev a b] w fun e w' => ∃ v', e = .returned v' ∧ Rd w' v' (bs ++ CM.encC2 f t) ∧ Below w.heap.size w w'
  decode : ∀ (v : Value) (xs : List Int) (w : World), Rd w v xs → Calls Try.prog 26 #[v] w fun e w' => ∃ a b, e = .returned (.tuple #[cev a b, .int .i64 ((CM.decC xs).2.1 : Int), .int .i64 (CM.decC xs).1]) ∧ RdF w' a (CM.decC xs).2.2.1 ∧ RdF w' b (CM.decC xs).2.2.2 ∧ Below w.heap.size w w'

theorem run_fieldT (x y : Value) (w : World) : (Instr.field 25 (cev x y) 1).run Try.prog w = .ok y w := by
  have hu := Try.underlying25
  have ha := Try.isAgg23
  have hs := Try.sizeOf23
  simp [Instr.field, run_underlying hu, asAgg, part, ha, hs]
theorem run_fieldF (x y : Value) (w : World) : (Instr.field 25 (cev x y) 0).run Try.prog w = .ok x w := by
  have hu := Try.underlying25
  have ha := Try.isAgg23
  have hs := Try.sizeOf23
  simp [Instr.field, run_underlying hu, asAgg, part, ha, hs]

def Lz : List Chg := [(2, 1, 0, 0, 0, 0, 0)]
def Fz : Fp := (201, 1, Lz)
theorem errz : CM.errC [] [Fz] = 0 := by decide
theorem err00 : CM.errC [] [] = 0 := by decide
theorem agr_nil (a : List Fp) : CM.Agr a [] := fun _ _ _ hy => by cases hy
theorem agr_self {a : List Fp} (h : CM.Ok a) : CM.Agr a a := fun _ hx _ hy h1 h2 => h.srt.key hx hy ⟨h1, h2⟩
theorem okz : CM.Ok [Fz] := (CM.errC_ok errz).2.1
theorem gd_z0 : Gd [] [Fz] [] [] := ⟨errz, err00, agr_nil _, agr_nil _, agr_nil _, agr_nil _⟩
theorem gd_zz : Gd [] [Fz] [] [Fz] := ⟨errz, errz, agr_nil _, (agr_nil _).symm, agr_nil _, agr_self okz⟩
theorem new1 : CM.newr [Fz] [] = true := by decide
theorem new2 : CM.newr [] [Fz] = false := by decide
theorem lat1 : (CM.latT [] [Fz]).length = 1 := by decide
theorem st1 : (CM.strt [] [Fz] [Fz]).length = 1 := by decide
theorem st2 : (CM.strt [] [Fz] []).length = 0 := by decide
theorem dec1 : CM.decC (CM.encC2 [] [Fz]) = (0, (CM.encC2 [] [Fz]).length, [], [Fz]) := by
  have := CM.decC_enc errz []
  rw [List.append_nil] at this
  exact this
theorem encC2_pos (f t : List Fp) : 0 < (CM.encC2 f t).length := by
  unfold CM.encC2
  rw [List.length_append]
  have := encL_pos f
  omega
theorem encC2_le {f t : List Fp} (h : CM.errC f t = 0) : (CM.encC2 f t).length ≤ 20000 := by
  unfold CM.encC2
  rw [List.length_append]
  have := encL_le (CM.errC_ok h).1
  have := encL_le (CM.errC_ok h).2.1
  omega

set_option maxRecDepth 100000 in
set_option maxHeartbeats 4000000 in
theorem cAwake13 (ct : CT) (w : World) : Calls Try.prog 9 #[] w fun e w' => e = .returned (.bool true) ∧ Below w.heap.size w w' := by
  have hb0 := below_fresh w (.cells #[.int .i64 2, .int .i64 1, .int .i64 0, .int .i64 0, .int .i64 0, .int .i64 0, .int .i64 0] 50)
  have hl0 : RdC (w.alloc (.cells #[.int .i64 2, .int .i64 1, .int .i64 0, .int .i64 0, .int .i64 0, .int .i64 0, .int .i64 0] 50)) (.slice (some ⟨w.heap.size, 0, none⟩) 1 1) Lz := (ownG_fresh hlC 50 w Lz (by simp [maxLen, Lz])).rd
  have hs0 := World.size_alloc w (.cells #[.int .i64 2, .int .i64 1, .int .i64 0, .int .i64 0, .int .i64 0, .int .i64 0, .int .i64 0] 50)
  obtain ⟨w0, hw0⟩ : ∃ w0, w.alloc (.cells #[.int .i64 2, .int .i64 1, .int .i64 0, .int .i64 0, .int .i64 0, .int .i64 0, .int .i64 0] 50) = w0 := ⟨_, rfl⟩
  rw [hw0] at hb0 hl0 hs0
  have hb1 := below_fresh w0 (.cells #[.int .i64 201, .int .i64 1, .slice (some ⟨w.heap.size, 0, none⟩) 1 1] 53)
  have ha1 : RdQ (w0.alloc (.cells #[.int .i64 201, .int .i64 1, .slice (some ⟨w.heap.size, 0, none⟩) 1 1] 53)) (.slice (some ⟨w0.heap.size, 0, none⟩) 1 1) [(201, 1, some ⟨w.heap.size, 0, none⟩, 1, 1)] := (ownG_fresh hlQ 53 w0 [(201, 1, some ⟨w.heap.size, 0, none⟩, 1, 1)] (by simp [maxLen])).rd
  have hs1 := World.size_alloc w0 (.cells #[.int .i64 201, .int .i64 1, .slice (some ⟨w.heap.size, 0, none⟩) 1 1] 53)
  obtain ⟨w1, hw1⟩ : ∃ w1, w0.alloc (.cells #[.int .i64 201, .int .i64 1, .slice (some ⟨w.heap.size, 0, none⟩) 1 1] 53) = w1 := ⟨_, rfl⟩
  rw [hw1] at hb1 ha1 hs1
  rw [hs0] at ha1 hs1
  have hb2 := below_fresh w1 (.cells #[.slice none 0 0, .slice (some ⟨w.heap.size + 1, 0, none⟩) 1 1] 25)
  have hX := XB.fresh w1 (.slice none 0 0) (.slice (some ⟨w.heap.size + 1, 0, none⟩) 1 1)
  obtain ⟨w2, hw2⟩ : ∃ w2, w1.alloc (.cells #[.slice none 0 0, .slice (some ⟨w.heap.size + 1, 0, none⟩) 1 1] 25) = w2 := ⟨_, rfl⟩
  rw [hw2] at hb2 hX
  rw [hs1] at hX
  have HC := Lib.hid (show RdF w2 (.slice (some ⟨w.heap.size + 1, 0, none⟩) 1 1) [Fz] from ⟨_, ha1.below hb2, Tel.one ⟨rfl, rfl, (hl0.below hb1).below hb2⟩⟩)
  have HX := Lib.hid hX
  have HB := Lib.hid (bnext (bnext hb0 hb1) hb2)
  have HW := Lib.hid (show ((w.alloc (.cells #[.int .i64 2, .int .i64 1, .int .i64 0, .int .i64 0, .int .i64 0, .int .i64 0, .int .i64 0] 50)).alloc (.cells #[.int .i64 201, .int .i64 1, .slice (some ⟨w.heap.size, 0, none⟩) 1 1] 53)).alloc (.cells #[.slice none 0 0, .slice (some ⟨w.heap.size + 1, 0, none⟩) 1 1] 25) = w2 by rw [hw0, hw1, hw2])
  clear hb0 hl0 hs0 hw0 hb1 ha1 hs1 hw1 hb2 hX hw2
  obtain ⟨x0, x1, _⟩ := HX.out.cells
  go_enter Try.func9, Try.ntmps9
  go_upto_region 2 with fail
  rw [HW.out]
  have hC := ct.append (.slice none 0 0) [] _ _ [] [Fz] w2 (Rd.nil _) (RdF.nil _) HC.out errz (by simp)
  have HQ := Lib.hid hC
  clear hC
  go_wp2_with fail
  refine HQ.out.mono ?_
  rintro e w3 ⟨v3, rfl, hr, hb⟩
  clear x0 x1
  replace HX := Lib.hid (HX.out.below hb)
  replace HC := Lib.hid (HC.out.below hb)
  replace HB := Lib.hid (bnext HB.out hb)
  have HV := Lib.hid hr
  obtain ⟨x0, x1, _⟩ := HX.out.cells
  clear hb HQ hr HW
  have hC := ct.decode v3 _ w3 HV.out
  rw [List.nil_append, dec1] at hC
  have hN := encC2_pos [] [Fz]
  have hN2 := encC2_le errz
  generalize (CM.encC2 [] [Fz]).length = N at hC hN hN2
  have hN3 : (0 : Int) < (N : Int) := by omega
  clear hN
  have HQ := Lib.hid hC
  clear hC
  go_wp2_with fail
  refine HQ.out.mono ?_
  rintro e w4 ⟨a4, b4, rfl, hr, hs, hb⟩
  clear x0 x1
  replace HX := Lib.hid (HX.out.below hb)
  replace HC := Lib.hid (HC.out.below hb)
  replace HV := Lib.hid (HV.out.below hb)
  replace HB := Lib.hid (bnext HB.out hb)
  have HA4 := Lib.hid hr
  have HB4 := Lib.hid hs
  obtain ⟨aa4, ac4, rfl, _, _⟩ := hr.shape
  obtain ⟨ba4, bc4, rfl, _, _⟩ := hs.shape
  obtain ⟨x0, x1, _⟩ := HX.out.cells
  clear hb HQ hr hs HV
  have hfr := below_fresh w4 (.cells #[.slice aa4 ([] : List Fp).length ac4, .slice ba4 [Fz].length bc4] 25)
  have hY := XB.fresh w4 (.slice aa4 ([] : List Fp).length ac4) (.slice ba4 [Fz].length bc4)
  obtain ⟨w5, hw5⟩ : ∃ w5, w4.alloc (.cells #[.slice aa4 ([] : List Fp).length ac4, .slice ba4 [Fz].length bc4] 25) = w5 := ⟨_, rfl⟩
  rw [hw5] at hfr hY
  have hl0 : ([] : List Fp).length = 0 := rfl
  have hl1 : [Fz].length = 1 := rfl
  replace HA4 := Lib.hid (show RdF w5 (.slice aa4 0 ac4) [] from HA4.out.below hfr)
  replace HB4 := Lib.hid (show RdF w5 (.slice ba4 1 bc4) [Fz] from HB4.out.below hfr)
  replace HC := Lib.hid (HC.out.below hfr)
  replace HX := Lib.hid (HX.out.below hfr)
  replace HB := Lib.hid (bnext HB.out hfr)
  have HY := Lib.hid (show XB w5 w4.heap.size (.slice aa4 0 ac4) (.slice ba4 1 bc4) from hY)
  have HW5 := Lib.hid (show w4.alloc (.cells #[.slice aa4 0 ac4, .slice ba4 1 bc4] 25) = w5 from hw5)
  rw [hl0, hl1]
  clear hfr hY hw5 hl0 hl1
  go_upto_region 3 with fail
  rw [HW5.out]
  clear x0 x1 HW5
  obtain ⟨x0, x1, _⟩ := HX.out.cells
  obtain ⟨y0, y1, _⟩ := HY.out.cells
  have hC := ct.newer _ _ _ _ [] [Fz] [] [] w5 (RdF.nil _) HC.out (RdF.nil _) (RdF.nil _) gd_z0
  rw [new1] at hC
  have HQ := Lib.hid hC
  clear hC
  go_wp2_with fail
  refine HQ.out.mono ?_
  rintro e w6 ⟨rfl, hb⟩
  clear x0 x1
  clear y0 y1
  replace HX := Lib.hid (HX.out.below hb)
  replace HC := Lib.hid (HC.out.below hb)
  replace HA4 := Lib.hid (HA4.out.below hb)
  replace HB4 := Lib.hid (HB4.out.below hb)
  replace HY := Lib.hid (HY.out.below hb)
  replace HB := Lib.hid (bnext HB.out hb)
  obtain ⟨x0, x1, _⟩ := HX.out.cells
  obtain ⟨y0, y1, _⟩ := HY.out.cells
  clear hb HQ
  have hC := ct.newer _ _ _ _ [] [] [] [Fz] w6 (RdF.nil _) (RdF.nil _) (RdF.nil _) HC.out gd_z0.symm
  rw [new2] at hC
  have HQ := Lib.hid hC
  clear hC
  go_wp2_with fail
  refine HQ.out.mono ?_
  rintro e w7 ⟨rfl, hb⟩
  clear x0 x1
  clear y0 y1
  replace HX := Lib.hid (HX.out.below hb)
  replace HC := Lib.hid (HC.out.below hb)
  replace HA4 := Lib.hid (HA4.out.below hb)
  replace HB4 := Lib.hid (HB4.out.below hb)
  replace HY := Lib.hid (HY.out.below hb)
  replace HB := Lib.hid (bnext HB.out hb)
  obtain ⟨x0, x1, _⟩ := HX.out.cells
  obtain ⟨y0, y1, _⟩ := HY.out.cells
  clear hb HQ
  have hC := ct.latest _ _ _ _ [] [] [] [Fz] w7 (RdF.nil _) (RdF.nil _) (RdF.nil _) HC.out gd_z0.symm
  have HQ := Lib.hid hC
  clear hC
  go_wp2_with fail
  refine HQ.out.mono ?_
  rintro e w8 ⟨v6, u6, rfl, _, hs, hb⟩
  clear x0 x1
  clear y0 y1
  replace HX := Lib.hid (HX.out.below hb)
  replace HC := Lib.hid (HC.out.below hb)
  replace HA4 := Lib.hid (HA4.out.below hb)
  replace HB4 := Lib.hid (HB4.out.below hb)
  replace HY := Lib.hid (HY.out.below hb)
  replace HB := Lib.hid (bnext HB.out hb)
  obtain ⟨ua6, uc6, rfl, _, _⟩ := hs.shape
  rw [lat1]
  have hft := fun (x y : Value) (w : World) => run_fieldT x y w
  obtain ⟨x0, x1, _⟩ := HX.out.cells
  obtain ⟨y0, y1, _⟩ := HY.out.cells
  clear hb HQ hs
  have hC := ct.start _ _ _ _ [] [Fz] [] [Fz] w8 (RdF.nil _) HC.out (RdF.nil _) HC.out gd_zz
  have HQ := Lib.hid hC
  clear hC
  go_wp2_with fail
  refine HQ.out.mono ?_
  rintro e w9 ⟨v7, rfl, hs, hb⟩
  clear x0 x1
  clear y0 y1
  replace HX := Lib.hid (HX.out.below hb)
  replace HC := Lib.hid (HC.out.below hb)
  replace HA4 := Lib.hid (HA4.out.below hb)
  replace HB4 := Lib.hid (HB4.out.below hb)
  replace HY := Lib.hid (HY.out.below hb)
  replace HB := Lib.hid (bnext HB.out hb)
  obtain ⟨ua7, uc7, rfl, _, _⟩ := hs.shape
  rw [st1]
  obtain ⟨x0, x1, _⟩ := HX.out.cells
  obtain ⟨y0, y1, _⟩ := HY.out.cells
  clear hb HQ hs
  have hC := ct.start _ _ _ _ [] [Fz] [] [] w9 (RdF.nil _) HC.out (RdF.nil _) (RdF.nil _) gd_z0
  have HQ := Lib.hid hC
  clear hC
  go_wp2_with fail
  refine HQ.out.mono ?_
  rintro e w10 ⟨v8, rfl, hs, hb⟩
  clear x0 x1
  clear y0 y1
  replace HX := Lib.hid (HX.out.below hb)
  replace HC := Lib.hid (HC.out.below hb)
  replace HA4 := Lib.hid (HA4.out.below hb)
  replace HB4 := Lib.hid (HB4.out.below hb)
  replace HY := Lib.hid (HY.out.below hb)
  replace HB := Lib.hid (bnext HB.out hb)
  obtain ⟨ua8, uc8, rfl, _, _⟩ := hs.shape
  rw [st2]
  obtain ⟨x0, x1, _⟩ := HX.out.cells
  obtain ⟨y0, y1, _⟩ := HY.out.cells
  clear hb HQ hs
  have hC := ct.equal _ _ _ _ [] [Fz] [] [Fz] w10 (RdF.nil _) HC.out HA4.out HB4.out
  rw [decide_eq_true rfl, decide_eq_true rfl] at hC
  have HQ := Lib.hid hC
  clear hC
  go_wp2_with fail
  refine HQ.out.mono ?_
  rintro e w11 ⟨rfl, hb⟩
  clear x0 x1
  clear y0 y1
  replace HX := Lib.hid (HX.out.below hb)
  replace HC := Lib.hid (HC.out.below hb)
  replace HA4 := Lib.hid (HA4.out.below hb)
  replace HB4 := Lib.hid (HB4.out.below hb)
  replace HY := Lib.hid (HY.out.below hb)
  replace HB := Lib.hid (bnext HB.out hb)
  obtain ⟨x0, x1, _⟩ := HX.out.cells
  obtain ⟨y0, y1, _⟩ := HY.out.cells
  clear hb HQ
  have hC := ct.validate _ _ [] [Fz] w11 (RdF.nil _) HC.out
  rw [errz] at hC
  have HQ := Lib.hid hC
  clear hC
  go_wp2_with fail
  refine HQ.out.mono ?_
  rintro e w12 ⟨rfl, hb⟩
  clear x0 x1
  clear y0 y1
  replace HX := Lib.hid (HX.out.below hb)
  replace HC := Lib.hid (HC.out.below hb)
  replace HA4 := Lib.hid (HA4.out.below hb)
  replace HB4 := Lib.hid (HB4.out.below hb)
  replace HY := Lib.hid (HY.out.below hb)
  replace HB := Lib.hid (bnext HB.out hb)
  obtain ⟨x0, x1, _⟩ := HX.out.cells
  obtain ⟨y0, y1, _⟩ := HY.out.cells
  clear hb HQ
  go_wp2
  go_ret
  exact ⟨rfl, HB.out⟩
end Go.Proofs.Ytfdgoehfkfdgaaa
