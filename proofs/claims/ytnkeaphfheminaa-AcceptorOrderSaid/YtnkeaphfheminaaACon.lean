/-
  What package acceptor's functions give, as a structure of contracts; the laws' awake. Conditions: the contracts hold.
-/
import Derived.Deep.CutRange
import Derived.Test.YtnkeaphfheminaaABase
namespace Go.Proofs.Ytnkeaphfheminaa
open Go.RowKit
open VM (Ent)

structure AT : Prop where
  accept : ∀ (a b : Value) (xs ys : List Ent) (w : World), VX.RdV w a xs → VX.RdV w b ys → VM.Val 0 xs → VM.Val 0 ys → xs.length ≤ 2000 → ys.length ≤ 2000 → Calls Try.prog 9 #[acv a, b] w fun e w' => ∃ v, e = .returned (.tuple #[acv v, .bool (VM.le xs ys)]) ∧ VX.RdV w' v (VM.jn xs ys) ∧ Below w.heap.size w w'
  all : ∀ (a v : Value) (xs : List Ent) (ls : List (List Ent)) (w : World), VX.RdV w a xs → RdVs w v ls → VM.Val 0 xs → (∀ x ∈ ls, x.length ≤ 2000 ∧ VM.Val 0 x) → xs.length ≤ 2000 → ls.length ≤ 40 → Calls Try.prog 13 #[acv a, v] w fun e w' => ∃ b l, e = .returned (.tuple #[acv b, l]) ∧ VX.RdV w' b (VM.acF xs ls) ∧ RdBs w' l (VM.acL xs ls) ∧ Below w.heap.size w w'

theorem aj0 : VM.jn [] [(1, 1)] = [(1, 1)] := by simp [VM.jn, VM.mrg, VM.sel, VM.one]; decide
theorem aj1 : VM.jn [(1, 1)] [(2, 1)] = [(1, 1), (2, 1)] := by simp [VM.jn, VM.mrg, VM.sel, VM.one]; decide
theorem aj2 : VM.jn [(1, 1)] [(1, 2)] = [(1, 2)] := by simp [VM.jn, VM.mrg, VM.sel, VM.one]; decide
theorem aj3 : VM.acF [(1, 1)] [[(1, 2)]] = [(1, 2)] := aj2
theorem al0 : VM.le [] [(1, 1)] = true := by decide
theorem al1 : VM.le [(1, 1)] [(2, 1)] = false := by decide
theorem al2 : VM.acL [(1, 1)] [[(1, 2)]] = [true] := by show [VM.le [(1, 1)] [(1, 2)]] = [true]; decide
theorem av1 {x n : Int} (h1 : 1 ≤ x) (h2 : 1 ≤ n) (h3 : n ≤ 1000000) : VM.Val 0 [(x, n)] := ⟨by show 0 < x; omega, h2, h3, trivial⟩

theorem oneE (w : World) (x n : Int) : ∃ w0, w.alloc (.cells #[.int .i64 x, .int .i64 n] 41) = w0 ∧ VX.RdV w0 (.slice (some ⟨w.heap.size, 0, none⟩) 1 1) [(x, n)] ∧ Below w.heap.size w w0 ∧ w0.heap.size = w.heap.size + 1 :=
  ⟨_, rfl, (VX.ownV_fresh w [(x, n)] (by simp [maxLen])).rd, below_fresh w _, World.size_alloc _ _⟩
theorem oneA (w : World) (a : Value) : ∃ w0, w.alloc (.cells #[a] 25) = w0 ∧ AcB w0 w.heap.size a ∧ Below w.heap.size w w0 := ⟨_, rfl, AcB.fresh w a, below_fresh w _⟩

set_option maxRecDepth 100000 in
set_option maxHeartbeats 4000000 in
theorem cAwake15 (ct : AT) (w : World) : Calls Try.prog 8 #[] w fun e w' => e = .returned (.bool true) ∧ Below w.heap.size w w' := by
  obtain ⟨w0, hw0, hr0, hb0, _⟩ := oneE w 1 1
  have hc := ct.accept (.slice none 0 0) _ [] _ w0 (VX.RdV.nil _) hr0 trivial (av1 (by decide) (by decide) (by decide)) (by simp) (by simp)
  rw [aj0, al0] at hc
  have HC := Lib.hid hc
  have HW := Lib.hid hw0
  have HB := Lib.hid hb0
  clear hc hr0 hw0 hb0
  go_enter Try.func8, Try.ntmps8
  go_wp2_with fail
  rw [HW.out]
  refine HC.out.mono ?_
  rintro e w1 ⟨v1, rfl, hr1, hb1⟩
  obtain ⟨a1, p1, rfl, _, _⟩ := (show ∃ a c, v1 = .slice a 1 c ∧ c ≤ 9223372036854775807 ∧ 1 ≤ c from hr1.shape)
  replace HB := Lib.hid (bnext HB.out hb1)
  clear hb1 HC HW
  go_upto_region 2 with fail
  obtain ⟨w2, hw2, hA, hb2⟩ := oneA w1 (.slice a1 1 p1)
  rw [hw2]
  have HA := Lib.hid hA
  have HR := Lib.hid (hr1.below hb2)
  replace HB := Lib.hid (bnext HB.out hb2)
  generalize w1.heap.size = g1 at HA hA
  clear hw2 hb2 hr1
  obtain ⟨w3, hw3, hr3, hb3, _⟩ := oneE w2 2 1
  have hc := ct.accept _ _ [(1, 1)] _ w3 (HR.out.below hb3) hr3 (av1 (by decide) (by decide) (by decide)) (av1 (by decide) (by decide) (by decide)) (by simp) (by simp)
  rw [aj1, al1] at hc
  have HC := Lib.hid hc
  have HW := Lib.hid hw3
  replace HB := Lib.hid (bnext HB.out hb3)
  replace HA := Lib.hid (HA.out.below hb3)
  replace HR := Lib.hid (HR.out.below hb3)
  have c0 := hA.cell
  clear hc hr3 hw3 hb3 hA
  go_wp2_with fail
  rw [HW.out]
  refine HC.out.mono ?_
  rintro e w4 ⟨v4, rfl, hr4, hb4⟩
  obtain ⟨a4, p4, rfl, _, _⟩ := (show ∃ a c, v4 = .slice a 2 c ∧ c ≤ 9223372036854775807 ∧ 2 ≤ c from hr4.shape)
  replace HB := Lib.hid (bnext HB.out hb4)
  replace HA := Lib.hid (HA.out.below hb4)
  replace HR := Lib.hid (HR.out.below hb4)
  clear hb4 HC HW c0
  go_upto_region 3 with fail
  obtain ⟨w5, hw5, hD, hb5⟩ := oneA w4 (.slice a4 2 p4)
  rw [hw5]
  have HD := Lib.hid hD
  have HS := Lib.hid (hr4.below hb5)
  replace HB := Lib.hid (bnext HB.out hb5)
  replace HA := Lib.hid (HA.out.below hb5)
  replace HR := Lib.hid (HR.out.below hb5)
  generalize w4.heap.size = g4 at HD hD
  clear hw5 hb5 hr4 hD
  obtain ⟨w6, hw6, hr6, hb6, hs6⟩ := oneE w5 1 2
  have hfr := below_fresh w6 (.cells #[.slice (some ⟨w5.heap.size, 0, none⟩) 1 1] 23)
  have hg6 := heap_alloc_new w6 (.cells #[.slice (some ⟨w5.heap.size, 0, none⟩) 1 1] 23)
  obtain ⟨w7, hw7⟩ : ∃ w7, w6.alloc (.cells #[.slice (some ⟨w5.heap.size, 0, none⟩) 1 1] 23) = w7 := ⟨_, rfl⟩
  rw [hw7] at hfr hg6
  have hL := rdVs_one hg6 (hr6.below hfr)
  rw [hs6] at hL
  have hb7 := bnext hb6 hfr
  have hc := ct.all _ _ [(1, 1)] _ w7 (HR.out.below hb7) hL (av1 (by decide) (by decide) (by decide)) (fun x hx => by rw [List.mem_singleton] at hx; subst hx; exact ⟨by simp, av1 (by decide) (by decide) (by decide)⟩) (by simp) (by simp)
  rw [aj3, al2] at hc
  have HC := Lib.hid hc
  have HW := Lib.hid (show (w5.alloc (.cells #[.int .i64 1, .int .i64 2] 41)).alloc (.cells #[.slice (some ⟨w5.heap.size, 0, none⟩) 1 1] 23) = w7 by rw [hw6, hw7])
  have c0 := HA.out.cell
  replace HB := Lib.hid (bnext HB.out hb7)
  replace HD := Lib.hid (HD.out.below hb7)
  replace HS := Lib.hid (HS.out.below hb7)
  clear hc hr6 hw6 hb6 hs6 hfr hg6 hw7 hL hb7 HA HR
  go_wp2_with fail
  rw [HW.out]
  refine HC.out.mono ?_
  rintro e w8 ⟨v8, l8, rfl, hr8, hl8, hb8⟩
  obtain ⟨ra, rc, rfl, _, _⟩ := (show ∃ a c, v8 = .slice a 1 c ∧ c ≤ 9223372036854775807 ∧ 1 ≤ c from hr8.shape)
  obtain ⟨la, lc, rfl, _, _⟩ := (show ∃ a c, l8 = .slice a 1 c ∧ c ≤ 9223372036854775807 ∧ 1 ≤ c from hl8.shape)
  replace HB := Lib.hid (bnext HB.out hb8)
  replace HD := Lib.hid (HD.out.below hb8)
  replace HS := Lib.hid (HS.out.below hb8)
  clear hb8 HC HW c0
  go_upto_region 4 with fail
  obtain ⟨w9, hw9, hE, hb9⟩ := oneA w8 (.slice ra 1 rc)
  rw [hw9]
  have hS := HS.out.below hb9
  have hR := hr8.below hb9
  have hL := hl8.below hb9
  replace HB := Lib.hid (bnext HB.out hb9)
  have d0 := (HD.out.below hb9).cell
  have e0 := hE.cell
  obtain ⟨b1, o1, hi1, _, f1⟩ := hL.at_ boolE 0 true rfl
  have f10 := f1 0 _ rfl
  obtain ⟨b2, o2, hi2, _, _, f2⟩ := hR.at 0 (1, 2) rfl
  rw [Nat.add_zero] at f10
  have i1 : ∀ w0, (Instr.indexAt 34 (.slice la 1 lc) (.int .i64 0)).run Try.prog w0 = .ok (.pointer (some ⟨b1, o1, none⟩)) w0 := hi1
  have i2 : ∀ w0, (Instr.indexAt 23 (.slice ra 1 rc) (.int .i64 0)).run Try.prog w0 = .ok (.pointer (some ⟨b2, o2, none⟩)) w0 := hi2
  generalize w8.heap.size = g8 at e0
  clear hw9 hb9 hS hR hL hE HD HS hr8 hl8 hi1 hi2 f1
  go_wp2
  go_ret
  exact ⟨rfl, HB.out⟩
end Go.Proofs.Ytnkeaphfheminaa
