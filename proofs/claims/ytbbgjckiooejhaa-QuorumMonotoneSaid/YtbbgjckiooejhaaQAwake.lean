/-
  The call of the laws' awake in elasticstorelaw04, at any world: true. No conditions.
-/
import Derived.Test.YtbbgjckiooejhaaQOver
import Derived.Test.YtbbgjckiooejhaaQRef
namespace Go.Proofs.Ytbbgjckiooejhaa
open Go.RowKit
open QM (Mem)

def ms4 : List Mem := [(1, 1), (2, 1), (3, 1), (4, 1)]
def M4 : List Nat := [14, 22, 26, 28]
theorem val4 : QM.Val 0 ms4 := QM.errM_val.1 (by decide)
theorem mem4 : QM.memL ms4 = 30 := by decide
set_option maxRecDepth 100000 in
theorem small4 : ∀ t, t < 31 → (t ∈ M4 ↔ QM.dif t 30 = 0 ∧ QM.qm 4 0 1 ms4 t = true ∧ ∀ i, i < 5 → t.testBit i = true → QM.qm 4 0 1 ms4 (QM.del t i) = false) := by decide
theorem min4 : QM.MinM 4 0 1 ms4 M4 := by
  refine ⟨by decide, fun t => ?_⟩
  by_cases ht : t < 31
  · have hb : ∀ i, t.testBit i = true → i < 5 := fun i hi => by
      rcases Nat.lt_or_ge i 5 with h | h
      · exact h
      · rw [Nat.testBit_lt_two_pow (Nat.lt_of_lt_of_le (by omega : t < 2 ^ 5) (Nat.pow_le_pow_right (by decide) h))] at hi; cases hi
    rw [small4 t ht, ← sub_of_dif val4 (by omega), mem4]
    exact ⟨fun ⟨h1, h2, h3⟩ => ⟨h1, h2, fun i hi => h3 i (hb i hi) hi⟩, fun ⟨h1, h2, h3⟩ => ⟨h1, h2, fun i _ hi => h3 i hi⟩⟩
  · constructor
    · intro h
      have : ∀ t ∈ M4, t < 31 := by decide
      exact absurd (this t h) ht
    · rintro ⟨h, _⟩
      have := QM.mask_le h
      rw [mem4] at this
      omega
theorem length4 {ls : List (List Int)} (h : QM.MinL (QM.isQ 4 0 1 ms4) ms4 ls) : ls.length = 4 := by
  obtain ⟨l2, h2, hp⟩ := lists_exist val4 min4
  rw [h.unique h2, hp.length_eq]; rfl
theorem least4 {ls : List (List Int)} (h : QM.MinL (QM.isQ 4 0 1 ms4) ms4 ls) {o : Int} (ho : QM.Least ls o) : o = 2 := by
  have h1 : LeastM M4 2 := ⟨by decide, by decide⟩
  exact ho.unique ((h1.lists val4 min4).same fun q => (min4.unique_lists val4 h q).symm)
set_option maxRecDepth 100000 in
theorem tol4 {t : Int} (h : QM.Tol 4 0 1 ms4 t) : t = 2 := by
  have h1 : TolM 4 0 1 ms4 (QM.memL ms4 + 1) 2 := by
    rw [TolM, mem4]
    refine ⟨⟨6, (sub_of_dif val4 (by decide)).1 (by decide), by decide, by decide⟩, fun s hs _ => ?_⟩
    have : ∀ s, s < 31 → QM.qm 4 0 1 ms4 (QM.dif 30 s) = false → 2 ≤ QM.pc s := by decide
    exact this s hs
  exact h.unique (h1.tol val4)

abbrev sl4 (B : Nat) : Value := .slice (some ⟨B, 0, none⟩) 4 4
theorem start4 (w w1 w2 w3 : World) (h1 : w1 = w.alloc (.cells #[.int .i64 1, .int .i64 1, .int .i64 2, .int .i64 1, .int .i64 3, .int .i64 1, .int .i64 4, .int .i64 1] 44))
    (h2 : w2 = w1.alloc (.cells #[sl4 w.heap.size, .int .i64 3, .int .i64 2, .int .i64 0] 26)) (h3 : w3 = w2.alloc (.cells #[sl4 w.heap.size, .int .i64 4, .int .i64 0, .int .i64 1] 26)) :
    RdM w3 (sl4 w.heap.size) ms4 ∧ VBox w3 (w.heap.size + 1) (sl4 w.heap.size) 3 2 0 ∧ VBox w3 (w.heap.size + 1 + 1) (sl4 w.heap.size) 4 0 1 ∧ Below w.heap.size w w3 ∧ w3.heap.size = w.heap.size + 1 + 1 + 1 := by
  have e1 : w1.heap.size = w.heap.size + 1 := by rw [h1]; exact World.size_alloc _ _
  have e2 : w2.heap.size = w.heap.size + 1 + 1 := by rw [h2, World.size_alloc, e1]
  have e3 : w3.heap.size = w.heap.size + 1 + 1 + 1 := by rw [h3, World.size_alloc, e2]
  have b1 : Below w.heap.size w w1 := by rw [h1]; exact below_fresh _ _
  have b2 : Below w1.heap.size w1 w2 := by rw [h2]; exact below_fresh _ _
  have b3 : Below w2.heap.size w2 w3 := by rw [h3]; exact below_fresh _ _
  have r1 : RdM w1 (sl4 w.heap.size) ms4 := by rw [h1]; exact (ownG_fresh hlM 44 w ms4 (by decide)).rd
  have x2 : VBox w2 (w.heap.size + 1) (sl4 w.heap.size) 3 2 0 := by rw [h2, ← e1]; exact VBox.fresh _ _ _ _ _
  have x3 : VBox w3 (w.heap.size + 1 + 1) (sl4 w.heap.size) 4 0 1 := by rw [h3, ← e2]; exact VBox.fresh _ _ _ _ _
  exact ⟨(r1.below b2).below b3, x2.below b3, x3, bnext (bnext b1 b2) b3, e3⟩

theorem aMin (sv : Value) (w1 : World) (h : RdM w1 sv ms4) : Calls Try.prog 20 #[vw sv 4 0 1] w1 fun e w' => ∃ a c, e = .returned (.slice a 4 c) ∧ Below w1.heap.size w1 w' := by
  refine (cMinimal sv 4 0 1 ms4 w1 h (by decide)).mono ?_
  rintro e w' ⟨v, ls, h1, h2, h3, h4⟩
  obtain ⟨a, c, h5, _⟩ := h2.shape
  rw [length4 h3] at h5
  exact ⟨a, c, by rw [h1, h5], h4⟩
theorem aOver (sv : Value) (w1 : World) (h : RdM w1 sv ms4) : Calls Try.prog 25 #[vw sv 4 0 1] w1 fun e w' => e = .returned (.int .i64 2) ∧ Below w1.heap.size w1 w' := by
  refine (cOverlap sv 4 0 1 ms4 w1 h (by decide)).mono ?_
  rintro e w' ⟨o, ls, h1, h2, h3, h4⟩
  rw [least4 h2 h3] at h1
  exact ⟨h1, h4⟩
theorem aTol (sv : Value) (w1 : World) (h : RdM w1 sv ms4) : Calls Try.prog 27 #[vw sv 4 0 1] w1 fun e w' => e = .returned (.int .i64 1) ∧ Below w1.heap.size w1 w' := by
  refine (cTolerance sv 4 0 1 ms4 w1 h (by decide)).mono ?_
  rintro e w' ⟨t, h1, h2, h4⟩
  rw [tol4 h2] at h1
  exact ⟨h1, h4⟩

set_option maxRecDepth 100000 in
set_option maxHeartbeats 4000000 in
theorem cAwake (w : World) : Calls Try.prog 11 #[] w fun e w' => e = .returned (.bool true) ∧ Below w.heap.size w w' := by
  obtain ⟨hr3, hx3, hy3, hb3, hs3⟩ := start4 w _ _ _ rfl rfl rfl
  have HI1 := Lib.hid (fun sv xv w1 (h : RdM w1 sv ms4) (hx : RdI w1 xv [1, 2, 3]) => (show Calls Try.prog 18 #[vw sv 3 2 0, xv] w1 fun e w' => e = .returned (.bool true) ∧ Below w1.heap.size w1 w' from by
    have := cIsQuorum sv xv 3 2 0 ms4 [1, 2, 3] w1 h hx (by decide)
    rw [show (QM.isQ 3 2 0 ms4 fun x => decide (x ∈ [1, 2, 3])) = true by decide] at this
    exact this))
  have HI2 := Lib.hid (fun sv xv w1 (h : RdM w1 sv ms4) (hx : RdI w1 xv [1, 2]) => (show Calls Try.prog 18 #[vw sv 3 2 0, xv] w1 fun e w' => e = .returned (.bool false) ∧ Below w1.heap.size w1 w' from by
    have := cIsQuorum sv xv 3 2 0 ms4 [1, 2] w1 h hx (by decide)
    rw [show (QM.isQ 3 2 0 ms4 fun x => decide (x ∈ [1, 2])) = false by decide] at this
    exact this))
  have HMI := Lib.hid aMin
  have HOV := Lib.hid aOver
  have HTO := Lib.hid aTol
  have HVR := Lib.hid (fun w1 => (show Calls Try.prog 12 #[rl 0 0 0] w1 fun e w' => e = .returned (.int .i64 10) ∧ Below w1.heap.size w1 w' from cValRule 0 0 0 w1))
  have HFA := Lib.hid (fun w1 => cFaulty 4 0 1 w1)
  have HS3 := Lib.hid hs3
  have HR3 := Lib.hid hr3
  have HX3 := Lib.hid hx3
  have HY3 := Lib.hid hy3
  have HB3 := Lib.hid hb3
  clear hr3 hx3 hy3 hb3 hs3
  go_enter Try.func11, Try.ntmps11
  go_wp2_with fail
  generalize ((w.alloc (.cells #[.int .i64 1, .int .i64 1, .int .i64 2, .int .i64 1, .int .i64 3, .int .i64 1, .int .i64 4, .int .i64 1] 44)).alloc (.cells #[sl4 w.heap.size, .int .i64 3, .int .i64 2, .int .i64 0] 26)).alloc (.cells #[sl4 w.heap.size, .int .i64 4, .int .i64 0, .int .i64 1] 26) = w3 at HS3 HR3 HX3 HY3 HB3 ⊢
  have hf4 := below_fresh w3 (.cells #[.int .i64 1, .int .i64 2, .int .i64 3] 3)
  have hi4 : RdI (w3.alloc (.cells #[.int .i64 1, .int .i64 2, .int .i64 3] 3)) (.slice (some ⟨w.heap.size + 1 + 1 + 1, 0, none⟩) 3 3) [1, 2, 3] := by
    rw [← HS3.out]; exact (ownG_fresh hlI 3 w3 [1, 2, 3] (by decide)).rd
  refine (HI1.out _ _ _ (HR3.out.below hf4) hi4).mono ?_
  rintro e w5 ⟨rfl, hb5⟩
  have hb35 := bnext hf4 hb5
  have HR5 := Lib.hid (HR3.out.below hb35)
  have HX5 := Lib.hid (HX3.out.below hb35)
  have HY5 := Lib.hid (HY3.out.below hb35)
  have HB5 := Lib.hid (bnext HB3.out hb35)
  obtain ⟨x0, x1, x2, x3, x4⟩ := HX5.out
  clear hf4 hi4 hb5 hb35 HS3 HR3 HX3 HY3 HB3
  go_wp2_with fail
  have hf6 := below_fresh w5 (.cells #[.int .i64 1, .int .i64 2] 3)
  refine (HI2.out _ _ _ (HR5.out.below hf6) (ownG_fresh hlI 3 w5 [1, 2] (by decide)).rd).mono ?_
  rintro e w7 ⟨rfl, hb7⟩
  have hb57 := bnext hf6 hb7
  have HR7 := Lib.hid (HR5.out.below hb57)
  have HY7 := Lib.hid (HY5.out.below hb57)
  have HB7 := Lib.hid (bnext HB5.out hb57)
  obtain ⟨y0, y1, y2, y3, y4⟩ := HY7.out
  clear hf6 hb7 hb57 HR5 HX5 HY5 HB5 x0 x1 x2 x3 x4
  go_wp2_with fail
  refine (HMI.out _ _ HR7.out).mono ?_
  rintro e w8 ⟨a8, c8, rfl, hb8⟩
  have HR8 := Lib.hid (HR7.out.below hb8)
  have HY8 := Lib.hid (HY7.out.below hb8)
  have HB8 := Lib.hid (bnext HB7.out hb8)
  clear hb8 HR7 HY7 HB7 y0 y1 y2 y3 y4
  obtain ⟨y0, y1, y2, y3, y4⟩ := HY8.out
  go_wp2_with fail
  refine (HOV.out _ _ HR8.out).mono ?_
  rintro e w9 ⟨rfl, hb9⟩
  have HR9 := Lib.hid (HR8.out.below hb9)
  have HY9 := Lib.hid (HY8.out.below hb9)
  have HB9 := Lib.hid (bnext HB8.out hb9)
  clear hb9 HR8 HY8 HB8 y0 y1 y2 y3 y4
  obtain ⟨y0, y1, y2, y3, y4⟩ := HY9.out
  go_wp2_with fail
  refine (HTO.out _ _ HR9.out).mono ?_
  rintro e w10 ⟨rfl, hb10⟩
  have HY10 := Lib.hid (HY9.out.below hb10)
  have HB10 := Lib.hid (bnext HB9.out hb10)
  clear hb10 HR9 HY9 HB9 y0 y1 y2 y3 y4
  go_wp2_with fail
  refine (HVR.out _).mono ?_
  rintro e w11 ⟨rfl, hb11⟩
  have HY11 := Lib.hid (HY10.out.below hb11)
  have HB11 := Lib.hid (bnext HB10.out hb11)
  clear hb11 HY10 HB10
  obtain ⟨y0, y1, y2, y3, y4⟩ := HY11.out
  go_wp2_with fail
  refine (HFA.out _).mono ?_
  rintro e w12 ⟨rfl, hb12⟩
  have HB12 := Lib.hid (bnext HB11.out hb12)
  clear hb12 HY11 HB11
  go_wp2
  go_ret
  exact ⟨rfl, HB12.out⟩
end Go.Proofs.Ytbbgjckiooejhaa
