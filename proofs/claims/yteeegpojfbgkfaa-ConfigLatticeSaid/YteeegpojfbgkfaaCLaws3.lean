/-
  The calls of laws of configurations: each returns true. Conditions: what comes in reads.
-/
import Derived.Test.YteeegpojfbgkfaaCLawM
namespace Go.Proofs.Yteeegpojfbgkfaa
open Go.RowKit
open JM (Chg)
open CM (Fp)
open VM (Ent)

set_option maxRecDepth 100000 in
set_option maxHeartbeats 4000000 in
theorem lConfigLattice (v : Value) (l : List Int) (x y z : Int) (w : World) (h : RdI w v l) (hl : l.length ≤ 4611686018427387904) :
    Calls Try.prog 5 #[v, .int .i64 x, .int .i64 y, .int .i64 z] w fun e w' => e = .returned (.bool true) ∧ Below w.heap.size w w' := by
  have HP := Lib.hid (kPool v l w h hl)
  obtain ⟨ad, cp, rfl, _, _⟩ := h.shape
  clear h hl
  have HB := Lib.hid (Below.refl w.heap.size w)
  go_enter Try.func5, Try.ntmps5
  go_wp2_with fail
  refine HP.out.mono ?_
  rintro e w1 ⟨vp, p, rfl, hr, hok, hb⟩
  replace HB := Lib.hid (bnext HB.out hb)
  have P := Lib.hid hr
  have HOK := Lib.hid hok
  have hp9 := hok.nine
  clear hr hok hb HP
  have hC := kPart _ _ x w1 P.out (by omega)
  have HC := Lib.hid hC
  clear hC
  go_wp2_with fail
  refine HC.out.mono ?_
  rintro e w2 ⟨vA, gA, rfl, hr, hb⟩
  replace P := Lib.hid (P.out.below hb)
  replace HB := Lib.hid (bnext HB.out hb)
  have A := Lib.hid hr
  clear hb HC hr
  have hC := kPart _ _ y w2 P.out (by omega)
  have HC := Lib.hid hC
  clear hC
  go_wp2_with fail
  refine HC.out.mono ?_
  rintro e w3 ⟨vB, gB, rfl, hr, hb⟩
  replace P := Lib.hid (P.out.below hb)
  replace A := Lib.hid (A.out.below hb)
  replace HB := Lib.hid (bnext HB.out hb)
  have B := Lib.hid hr
  clear hb HC hr
  have hC := kPart _ _ z w3 P.out (by omega)
  have HC := Lib.hid hC
  clear hC
  go_wp2_with fail
  refine HC.out.mono ?_
  rintro e w4 ⟨vC, gC, rfl, hr, hb⟩
  replace P := Lib.hid (P.out.below hb)
  replace A := Lib.hid (A.out.below hb)
  replace B := Lib.hid (B.out.below hb)
  replace HB := Lib.hid (bnext HB.out hb)
  have C := Lib.hid hr
  clear hb HC hr
  have hC := pUnion _ _ p gA gB w4 HOK.out A.out B.out
  have HC := Lib.hid hC
  clear hC
  go_wp2_with fail
  refine HC.out.mono ?_
  rintro e w5 ⟨vU, rfl, hr, hb⟩
  replace P := Lib.hid (P.out.below hb)
  replace A := Lib.hid (A.out.below hb)
  replace B := Lib.hid (B.out.below hb)
  replace C := Lib.hid (C.out.below hb)
  replace HB := Lib.hid (bnext HB.out hb)
  have U := Lib.hid hr
  clear hb HC hr
  have hC := pValid _ p _ w5 HOK.out U.out
  have HC := Lib.hid hC
  clear hC
  go_wp2_with fail
  refine HC.out.mono ?_
  rintro e w6 ⟨rfl, hb⟩
  replace P := Lib.hid (P.out.below hb)
  replace A := Lib.hid (A.out.below hb)
  replace B := Lib.hid (B.out.below hb)
  replace C := Lib.hid (C.out.below hb)
  replace U := Lib.hid (U.out.below hb)
  replace HB := Lib.hid (bnext HB.out hb)
  clear hb HC
  have hC := pUnion _ _ p gB gA w6 HOK.out B.out A.out
  have HC := Lib.hid hC
  clear hC
  go_wp2_with fail
  refine HC.out.mono ?_
  rintro e w7 ⟨vT, rfl, hr, hb⟩
  replace P := Lib.hid (P.out.below hb)
  replace A := Lib.hid (A.out.below hb)
  replace B := Lib.hid (B.out.below hb)
  replace C := Lib.hid (C.out.below hb)
  replace U := Lib.hid (U.out.below hb)
  replace HB := Lib.hid (bnext HB.out hb)
  have T := Lib.hid hr
  clear hb HC hr
  have hC := pEqual _ _ _ _ w7 U.out T.out (by rw [CM.mx_comm])
  have HC := Lib.hid hC
  clear hC
  go_wp2_with fail
  refine HC.out.mono ?_
  rintro e w8 ⟨rfl, hb⟩
  clear T
  replace P := Lib.hid (P.out.below hb)
  replace A := Lib.hid (A.out.below hb)
  replace B := Lib.hid (B.out.below hb)
  replace C := Lib.hid (C.out.below hb)
  replace U := Lib.hid (U.out.below hb)
  replace HB := Lib.hid (bnext HB.out hb)
  clear hb HC
  have hC := pUnion _ _ p _ gC w8 HOK.out U.out C.out
  have HC := Lib.hid hC
  clear hC
  go_wp2_with fail
  refine HC.out.mono ?_
  rintro e w9 ⟨vT1, rfl, hr, hb⟩
  replace P := Lib.hid (P.out.below hb)
  replace A := Lib.hid (A.out.below hb)
  replace B := Lib.hid (B.out.below hb)
  replace C := Lib.hid (C.out.below hb)
  replace U := Lib.hid (U.out.below hb)
  replace HB := Lib.hid (bnext HB.out hb)
  have T1 := Lib.hid hr
  clear hb HC hr
  have hC := pUnion _ _ p gB gC w9 HOK.out B.out C.out
  have HC := Lib.hid hC
  clear hC
  go_wp2_with fail
  refine HC.out.mono ?_
  rintro e w10 ⟨vT2, rfl, hr, hb⟩
  replace P := Lib.hid (P.out.below hb)
  replace A := Lib.hid (A.out.below hb)
  replace B := Lib.hid (B.out.below hb)
  replace C := Lib.hid (C.out.below hb)
  replace U := Lib.hid (U.out.below hb)
  replace T1 := Lib.hid (T1.out.below hb)
  replace HB := Lib.hid (bnext HB.out hb)
  have T2 := Lib.hid hr
  clear hb HC hr
  have hC := pUnion _ _ p gA _ w10 HOK.out A.out T2.out
  have HC := Lib.hid hC
  clear hC
  go_wp2_with fail
  refine HC.out.mono ?_
  rintro e w11 ⟨vT3, rfl, hr, hb⟩
  replace P := Lib.hid (P.out.below hb)
  replace A := Lib.hid (A.out.below hb)
  replace B := Lib.hid (B.out.below hb)
  replace C := Lib.hid (C.out.below hb)
  replace U := Lib.hid (U.out.below hb)
  replace T1 := Lib.hid (T1.out.below hb)
  replace T2 := Lib.hid (T2.out.below hb)
  replace HB := Lib.hid (bnext HB.out hb)
  have T3 := Lib.hid hr
  clear hb HC hr
  have hC := pEqual _ _ _ _ w11 T1.out T3.out (by rw [CM.mx_assoc])
  have HC := Lib.hid hC
  clear hC
  go_wp2_with fail
  refine HC.out.mono ?_
  rintro e w12 ⟨rfl, hb⟩
  clear T1
  clear T2
  clear T3
  replace P := Lib.hid (P.out.below hb)
  replace A := Lib.hid (A.out.below hb)
  replace B := Lib.hid (B.out.below hb)
  replace C := Lib.hid (C.out.below hb)
  replace U := Lib.hid (U.out.below hb)
  replace HB := Lib.hid (bnext HB.out hb)
  clear hb HC
  have hC := pUnion _ _ p gA gA w12 HOK.out A.out A.out
  have HC := Lib.hid hC
  clear hC
  go_wp2_with fail
  refine HC.out.mono ?_
  rintro e w13 ⟨vT, rfl, hr, hb⟩
  replace P := Lib.hid (P.out.below hb)
  replace A := Lib.hid (A.out.below hb)
  replace B := Lib.hid (B.out.below hb)
  replace C := Lib.hid (C.out.below hb)
  replace U := Lib.hid (U.out.below hb)
  replace HB := Lib.hid (bnext HB.out hb)
  have T := Lib.hid hr
  clear hb HC hr
  have hC := pEqual _ _ _ _ w13 T.out A.out (by rw [CM.mx_self])
  have HC := Lib.hid hC
  clear hC
  go_wp2_with fail
  refine HC.out.mono ?_
  rintro e w14 ⟨rfl, hb⟩
  clear T
  replace P := Lib.hid (P.out.below hb)
  replace A := Lib.hid (A.out.below hb)
  replace B := Lib.hid (B.out.below hb)
  replace C := Lib.hid (C.out.below hb)
  replace U := Lib.hid (U.out.below hb)
  replace HB := Lib.hid (bnext HB.out hb)
  clear hb HC
  have hC := pContains _ _ p _ gA w14 HOK.out U.out A.out
  rw [CM.cons_mx1] at hC
  have HC := Lib.hid hC
  clear hC
  go_wp2_with fail
  refine HC.out.mono ?_
  rintro e w15 ⟨rfl, hb⟩
  replace P := Lib.hid (P.out.below hb)
  replace A := Lib.hid (A.out.below hb)
  replace B := Lib.hid (B.out.below hb)
  replace C := Lib.hid (C.out.below hb)
  replace U := Lib.hid (U.out.below hb)
  replace HB := Lib.hid (bnext HB.out hb)
  clear hb HC
  have hC := pContains _ _ p _ gB w15 HOK.out U.out B.out
  rw [CM.cons_mx2] at hC
  have HC := Lib.hid hC
  clear hC
  go_wp2_with fail
  refine HC.out.mono ?_
  rintro e w16 ⟨rfl, hb⟩
  replace P := Lib.hid (P.out.below hb)
  replace A := Lib.hid (A.out.below hb)
  replace B := Lib.hid (B.out.below hb)
  replace C := Lib.hid (C.out.below hb)
  replace U := Lib.hid (U.out.below hb)
  replace HB := Lib.hid (bnext HB.out hb)
  clear hb HC
  have hbo := CM.cons_both p gC gA gB
  have HU8 := Lib.hid (CM.cons_un p gA gB)
  obtain ⟨X1, hX1⟩ : ∃ b, b = CM.cons (CM.rs p gC) (CM.rs p gA) := ⟨_, rfl⟩
  obtain ⟨X2, hX2⟩ : ∃ b, b = CM.cons (CM.rs p gC) (CM.rs p gB) := ⟨_, rfl⟩
  obtain ⟨Y, hY⟩ : ∃ b, b = CM.cons (CM.rs p gA) (CM.rs p gB) := ⟨_, rfl⟩
  rw [← hX1, ← hX2] at hbo
  rw [← hY] at HU8
  have HBO := Lib.hid hbo
  have HX1 := Lib.hid hX1
  have HX2 := Lib.hid hX2
  have HY := Lib.hid hY
  have hyy : (Y != Y) = false := by cases Y <;> rfl
  clear hbo hX1 hX2 hY
  cases X1
  · have hC := pContains _ _ p gC gA w16 HOK.out C.out A.out
    rw [← HX1.out] at hC
    have HC := Lib.hid hC
    clear hC
    go_wp2_with fail
    refine HC.out.mono ?_
    rintro e w17 ⟨rfl, hb⟩
    replace P := Lib.hid (P.out.below hb)
    replace A := Lib.hid (A.out.below hb)
    replace B := Lib.hid (B.out.below hb)
    replace C := Lib.hid (C.out.below hb)
    replace U := Lib.hid (U.out.below hb)
    replace HB := Lib.hid (bnext HB.out hb)
    clear hb HC
    have hC := pContains _ _ p gA gB w17 HOK.out A.out B.out
    rw [← HY.out] at hC
    have HC := Lib.hid hC
    clear hC
    go_wp2_with fail
    refine HC.out.mono ?_
    rintro e w18 ⟨rfl, hb⟩
    replace P := Lib.hid (P.out.below hb)
    replace A := Lib.hid (A.out.below hb)
    replace B := Lib.hid (B.out.below hb)
    replace C := Lib.hid (C.out.below hb)
    replace U := Lib.hid (U.out.below hb)
    replace HB := Lib.hid (bnext HB.out hb)
    clear hb HC
    have hC := rEqualConfig _ _ _ _ w18 U.out A.out
    rw [HU8.out] at hC
    have HC := Lib.hid hC
    clear hC
    go_wp2_with fail
    refine HC.out.mono ?_
    rintro e w19 ⟨rfl, hb⟩
    replace P := Lib.hid (P.out.below hb)
    replace A := Lib.hid (A.out.below hb)
    replace B := Lib.hid (B.out.below hb)
    replace C := Lib.hid (C.out.below hb)
    replace U := Lib.hid (U.out.below hb)
    replace HB := Lib.hid (bnext HB.out hb)
    clear hb HC
    have hC := pMeet _ _ p gA _ w19 HOK.out A.out U.out
    have HC := Lib.hid hC
    clear hC
    go_wp2_with fail
    refine HC.out.mono ?_
    rintro e w20 ⟨vT, rfl, hr, hb⟩
    replace P := Lib.hid (P.out.below hb)
    replace A := Lib.hid (A.out.below hb)
    replace B := Lib.hid (B.out.below hb)
    replace C := Lib.hid (C.out.below hb)
    replace U := Lib.hid (U.out.below hb)
    replace HB := Lib.hid (bnext HB.out hb)
    have T := Lib.hid hr
    clear hb HC hr
    have hC := pEqual _ _ _ _ w20 T.out A.out (by rw [CM.mn_mx])
    have HC := Lib.hid hC
    clear hC
    go_wp2_with fail
    refine HC.out.mono ?_
    rintro e w21 ⟨rfl, hb⟩
    clear T
    replace P := Lib.hid (P.out.below hb)
    replace A := Lib.hid (A.out.below hb)
    replace B := Lib.hid (B.out.below hb)
    replace C := Lib.hid (C.out.below hb)
    replace U := Lib.hid (U.out.below hb)
    replace HB := Lib.hid (bnext HB.out hb)
    clear hb HC
    have hC := pMeet _ _ p gC _ w21 HOK.out C.out U.out
    have HC := Lib.hid hC
    clear hC
    go_wp2_with fail
    refine HC.out.mono ?_
    rintro e w22 ⟨vT1, rfl, hr, hb⟩
    replace P := Lib.hid (P.out.below hb)
    replace A := Lib.hid (A.out.below hb)
    replace B := Lib.hid (B.out.below hb)
    replace C := Lib.hid (C.out.below hb)
    replace U := Lib.hid (U.out.below hb)
    replace HB := Lib.hid (bnext HB.out hb)
    have T1 := Lib.hid hr
    clear hb HC hr
    have hC := pMeet _ _ p gC gA w22 HOK.out C.out A.out
    have HC := Lib.hid hC
    clear hC
    go_wp2_with fail
    refine HC.out.mono ?_
    rintro e w23 ⟨vT2, rfl, hr, hb⟩
    replace P := Lib.hid (P.out.below hb)
    replace A := Lib.hid (A.out.below hb)
    replace B := Lib.hid (B.out.below hb)
    replace C := Lib.hid (C.out.below hb)
    replace U := Lib.hid (U.out.below hb)
    replace T1 := Lib.hid (T1.out.below hb)
    replace HB := Lib.hid (bnext HB.out hb)
    have T2 := Lib.hid hr
    clear hb HC hr
    have hC := pMeet _ _ p gC gB w23 HOK.out C.out B.out
    have HC := Lib.hid hC
    clear hC
    go_wp2_with fail
    refine HC.out.mono ?_
    rintro e w24 ⟨vT3, rfl, hr, hb⟩
    replace P := Lib.hid (P.out.below hb)
    replace A := Lib.hid (A.out.below hb)
    replace B := Lib.hid (B.out.below hb)
    replace C := Lib.hid (C.out.below hb)
    replace U := Lib.hid (U.out.below hb)
    replace T1 := Lib.hid (T1.out.below hb)
    replace T2 := Lib.hid (T2.out.below hb)
    replace HB := Lib.hid (bnext HB.out hb)
    have T3 := Lib.hid hr
    clear hb HC hr
    have hC := pUnion _ _ p _ _ w24 HOK.out T2.out T3.out
    have HC := Lib.hid hC
    clear hC
    go_wp2_with fail
    refine HC.out.mono ?_
    rintro e w25 ⟨vT4, rfl, hr, hb⟩
    replace P := Lib.hid (P.out.below hb)
    replace A := Lib.hid (A.out.below hb)
    replace B := Lib.hid (B.out.below hb)
    replace C := Lib.hid (C.out.below hb)
    replace U := Lib.hid (U.out.below hb)
    replace T1 := Lib.hid (T1.out.below hb)
    replace T2 := Lib.hid (T2.out.below hb)
    replace T3 := Lib.hid (T3.out.below hb)
    replace HB := Lib.hid (bnext HB.out hb)
    have T4 := Lib.hid hr
    clear hb HC hr
    have hC := pEqual _ _ _ _ w25 T1.out T4.out (by rw [CM.mn_dist])
    have HC := Lib.hid hC
    clear hC
    go_wp2_with fail
    refine HC.out.mono ?_
    rintro e w26 ⟨rfl, hb⟩
    clear T1
    clear T2
    clear T3
    clear T4
    clear P
    replace A := Lib.hid (A.out.below hb)
    replace B := Lib.hid (B.out.below hb)
    replace C := Lib.hid (C.out.below hb)
    replace U := Lib.hid (U.out.below hb)
    replace HB := Lib.hid (bnext HB.out hb)
    clear hb HC
    have hC := cAwake w26
    have HC := Lib.hid hC
    clear hC
    go_wp2_with fail
    refine HC.out.mono ?_
    rintro e w27 ⟨rfl, hb⟩
    replace A := Lib.hid (A.out.below hb)
    replace B := Lib.hid (B.out.below hb)
    replace C := Lib.hid (C.out.below hb)
    replace U := Lib.hid (U.out.below hb)
    replace HB := Lib.hid (bnext HB.out hb)
    clear hb HC
    go_wp2
    go_ret
    exact ⟨rfl, HB.out⟩
  · have hC := pContains _ _ p gC gA w16 HOK.out C.out A.out
    rw [← HX1.out] at hC
    have HC := Lib.hid hC
    clear hC
    go_wp2_with fail
    refine HC.out.mono ?_
    rintro e w17 ⟨rfl, hb⟩
    replace P := Lib.hid (P.out.below hb)
    replace A := Lib.hid (A.out.below hb)
    replace B := Lib.hid (B.out.below hb)
    replace C := Lib.hid (C.out.below hb)
    replace U := Lib.hid (U.out.below hb)
    replace HB := Lib.hid (bnext HB.out hb)
    clear hb HC
    cases X2
    · have hC := pContains _ _ p gC gB w17 HOK.out C.out B.out
      rw [← HX2.out] at hC
      have HC := Lib.hid hC
      clear hC
      go_wp2_with fail
      refine HC.out.mono ?_
      rintro e w18 ⟨rfl, hb⟩
      replace P := Lib.hid (P.out.below hb)
      replace A := Lib.hid (A.out.below hb)
      replace B := Lib.hid (B.out.below hb)
      replace C := Lib.hid (C.out.below hb)
      replace U := Lib.hid (U.out.below hb)
      replace HB := Lib.hid (bnext HB.out hb)
      clear hb HC
      have hC := pContains _ _ p gA gB w18 HOK.out A.out B.out
      rw [← HY.out] at hC
      have HC := Lib.hid hC
      clear hC
      go_wp2_with fail
      refine HC.out.mono ?_
      rintro e w19 ⟨rfl, hb⟩
      replace P := Lib.hid (P.out.below hb)
      replace A := Lib.hid (A.out.below hb)
      replace B := Lib.hid (B.out.below hb)
      replace C := Lib.hid (C.out.below hb)
      replace U := Lib.hid (U.out.below hb)
      replace HB := Lib.hid (bnext HB.out hb)
      clear hb HC
      have hC := rEqualConfig _ _ _ _ w19 U.out A.out
      rw [HU8.out] at hC
      have HC := Lib.hid hC
      clear hC
      go_wp2_with fail
      refine HC.out.mono ?_
      rintro e w20 ⟨rfl, hb⟩
      replace P := Lib.hid (P.out.below hb)
      replace A := Lib.hid (A.out.below hb)
      replace B := Lib.hid (B.out.below hb)
      replace C := Lib.hid (C.out.below hb)
      replace U := Lib.hid (U.out.below hb)
      replace HB := Lib.hid (bnext HB.out hb)
      clear hb HC
      have hC := pMeet _ _ p gA _ w20 HOK.out A.out U.out
      have HC := Lib.hid hC
      clear hC
      go_wp2_with fail
      refine HC.out.mono ?_
      rintro e w21 ⟨vT, rfl, hr, hb⟩
      replace P := Lib.hid (P.out.below hb)
      replace A := Lib.hid (A.out.below hb)
      replace B := Lib.hid (B.out.below hb)
      replace C := Lib.hid (C.out.below hb)
      replace U := Lib.hid (U.out.below hb)
      replace HB := Lib.hid (bnext HB.out hb)
      have T := Lib.hid hr
      clear hb HC hr
      have hC := pEqual _ _ _ _ w21 T.out A.out (by rw [CM.mn_mx])
      have HC := Lib.hid hC
      clear hC
      go_wp2_with fail
      refine HC.out.mono ?_
      rintro e w22 ⟨rfl, hb⟩
      clear T
      replace P := Lib.hid (P.out.below hb)
      replace A := Lib.hid (A.out.below hb)
      replace B := Lib.hid (B.out.below hb)
      replace C := Lib.hid (C.out.below hb)
      replace U := Lib.hid (U.out.below hb)
      replace HB := Lib.hid (bnext HB.out hb)
      clear hb HC
      have hC := pMeet _ _ p gC _ w22 HOK.out C.out U.out
      have HC := Lib.hid hC
      clear hC
      go_wp2_with fail
      refine HC.out.mono ?_
      rintro e w23 ⟨vT1, rfl, hr, hb⟩
      replace P := Lib.hid (P.out.below hb)
      replace A := Lib.hid (A.out.below hb)
      replace B := Lib.hid (B.out.below hb)
      replace C := Lib.hid (C.out.below hb)
      replace U := Lib.hid (U.out.below hb)
      replace HB := Lib.hid (bnext HB.out hb)
      have T1 := Lib.hid hr
      clear hb HC hr
      have hC := pMeet _ _ p gC gA w23 HOK.out C.out A.out
      have HC := Lib.hid hC
      clear hC
      go_wp2_with fail
      refine HC.out.mono ?_
      rintro e w24 ⟨vT2, rfl, hr, hb⟩
      replace P := Lib.hid (P.out.below hb)
      replace A := Lib.hid (A.out.below hb)
      replace B := Lib.hid (B.out.below hb)
      replace C := Lib.hid (C.out.below hb)
      replace U := Lib.hid (U.out.below hb)
      replace T1 := Lib.hid (T1.out.below hb)
      replace HB := Lib.hid (bnext HB.out hb)
      have T2 := Lib.hid hr
      clear hb HC hr
      have hC := pMeet _ _ p gC gB w24 HOK.out C.out B.out
      have HC := Lib.hid hC
      clear hC
      go_wp2_with fail
      refine HC.out.mono ?_
      rintro e w25 ⟨vT3, rfl, hr, hb⟩
      replace P := Lib.hid (P.out.below hb)
      replace A := Lib.hid (A.out.below hb)
      replace B := Lib.hid (B.out.below hb)
      replace C := Lib.hid (C.out.below hb)
      replace U := Lib.hid (U.out.below hb)
      replace T1 := Lib.hid (T1.out.below hb)
      replace T2 := Lib.hid (T2.out.below hb)
      replace HB := Lib.hid (bnext HB.out hb)
      have T3 := Lib.hid hr
      clear hb HC hr
      have hC := pUnion _ _ p _ _ w25 HOK.out T2.out T3.out
      have HC := Lib.hid hC
      clear hC
      go_wp2_with fail
      refine HC.out.mono ?_
      rintro e w26 ⟨vT4, rfl, hr, hb⟩
      replace P := Lib.hid (P.out.below hb)
      replace A := Lib.hid (A.out.below hb)
      replace B := Lib.hid (B.out.below hb)
      replace C := Lib.hid (C.out.below hb)
      replace U := Lib.hid (U.out.below hb)
      replace T1 := Lib.hid (T1.out.below hb)
      replace T2 := Lib.hid (T2.out.below hb)
      replace T3 := Lib.hid (T3.out.below hb)
      replace HB := Lib.hid (bnext HB.out hb)
      have T4 := Lib.hid hr
      clear hb HC hr
      have hC := pEqual _ _ _ _ w26 T1.out T4.out (by rw [CM.mn_dist])
      have HC := Lib.hid hC
      clear hC
      go_wp2_with fail
      refine HC.out.mono ?_
      rintro e w27 ⟨rfl, hb⟩
      clear T1
      clear T2
      clear T3
      clear T4
      clear P
      replace A := Lib.hid (A.out.below hb)
      replace B := Lib.hid (B.out.below hb)
      replace C := Lib.hid (C.out.below hb)
      replace U := Lib.hid (U.out.below hb)
      replace HB := Lib.hid (bnext HB.out hb)
      clear hb HC
      have hC := cAwake w27
      have HC := Lib.hid hC
      clear hC
      go_wp2_with fail
      refine HC.out.mono ?_
      rintro e w28 ⟨rfl, hb⟩
      replace A := Lib.hid (A.out.below hb)
      replace B := Lib.hid (B.out.below hb)
      replace C := Lib.hid (C.out.below hb)
      replace U := Lib.hid (U.out.below hb)
      replace HB := Lib.hid (bnext HB.out hb)
      clear hb HC
      go_wp2
      go_ret
      exact ⟨rfl, HB.out⟩
    · have hC := pContains _ _ p gC gB w17 HOK.out C.out B.out
      rw [← HX2.out] at hC
      have HC := Lib.hid hC
      clear hC
      go_wp2_with fail
      refine HC.out.mono ?_
      rintro e w18 ⟨rfl, hb⟩
      replace P := Lib.hid (P.out.below hb)
      replace A := Lib.hid (A.out.below hb)
      replace B := Lib.hid (B.out.below hb)
      replace C := Lib.hid (C.out.below hb)
      replace U := Lib.hid (U.out.below hb)
      replace HB := Lib.hid (bnext HB.out hb)
      clear hb HC
      have hC := pContains _ _ p gC _ w18 HOK.out C.out U.out
      rw [HBO.out (by simp) (by simp)] at hC
      have HC := Lib.hid hC
      clear hC
      go_wp2_with fail
      refine HC.out.mono ?_
      rintro e w19 ⟨rfl, hb⟩
      replace P := Lib.hid (P.out.below hb)
      replace A := Lib.hid (A.out.below hb)
      replace B := Lib.hid (B.out.below hb)
      replace C := Lib.hid (C.out.below hb)
      replace U := Lib.hid (U.out.below hb)
      replace HB := Lib.hid (bnext HB.out hb)
      clear hb HC
      have hC := pContains _ _ p gA gB w19 HOK.out A.out B.out
      rw [← HY.out] at hC
      have HC := Lib.hid hC
      clear hC
      go_wp2_with fail
      refine HC.out.mono ?_
      rintro e w20 ⟨rfl, hb⟩
      replace P := Lib.hid (P.out.below hb)
      replace A := Lib.hid (A.out.below hb)
      replace B := Lib.hid (B.out.below hb)
      replace C := Lib.hid (C.out.below hb)
      replace U := Lib.hid (U.out.below hb)
      replace HB := Lib.hid (bnext HB.out hb)
      clear hb HC
      have hC := rEqualConfig _ _ _ _ w20 U.out A.out
      rw [HU8.out] at hC
      have HC := Lib.hid hC
      clear hC
      go_wp2_with fail
      refine HC.out.mono ?_
      rintro e w21 ⟨rfl, hb⟩
      replace P := Lib.hid (P.out.below hb)
      replace A := Lib.hid (A.out.below hb)
      replace B := Lib.hid (B.out.below hb)
      replace C := Lib.hid (C.out.below hb)
      replace U := Lib.hid (U.out.below hb)
      replace HB := Lib.hid (bnext HB.out hb)
      clear hb HC
      have hC := pMeet _ _ p gA _ w21 HOK.out A.out U.out
      have HC := Lib.hid hC
      clear hC
      go_wp2_with fail
      refine HC.out.mono ?_
      rintro e w22 ⟨vT, rfl, hr, hb⟩
      replace P := Lib.hid (P.out.below hb)
      replace A := Lib.hid (A.out.below hb)
      replace B := Lib.hid (B.out.below hb)
      replace C := Lib.hid (C.out.below hb)
      replace U := Lib.hid (U.out.below hb)
      replace HB := Lib.hid (bnext HB.out hb)
      have T := Lib.hid hr
      clear hb HC hr
      have hC := pEqual _ _ _ _ w22 T.out A.out (by rw [CM.mn_mx])
      have HC := Lib.hid hC
      clear hC
      go_wp2_with fail
      refine HC.out.mono ?_
      rintro e w23 ⟨rfl, hb⟩
      clear T
      replace P := Lib.hid (P.out.below hb)
      replace A := Lib.hid (A.out.below hb)
      replace B := Lib.hid (B.out.below hb)
      replace C := Lib.hid (C.out.below hb)
      replace U := Lib.hid (U.out.below hb)
      replace HB := Lib.hid (bnext HB.out hb)
      clear hb HC
      have hC := pMeet _ _ p gC _ w23 HOK.out C.out U.out
      have HC := Lib.hid hC
      clear hC
      go_wp2_with fail
      refine HC.out.mono ?_
      rintro e w24 ⟨vT1, rfl, hr, hb⟩
      replace P := Lib.hid (P.out.below hb)
      replace A := Lib.hid (A.out.below hb)
      replace B := Lib.hid (B.out.below hb)
      replace C := Lib.hid (C.out.below hb)
      replace U := Lib.hid (U.out.below hb)
      replace HB := Lib.hid (bnext HB.out hb)
      have T1 := Lib.hid hr
      clear hb HC hr
      have hC := pMeet _ _ p gC gA w24 HOK.out C.out A.out
      have HC := Lib.hid hC
      clear hC
      go_wp2_with fail
      refine HC.out.mono ?_
      rintro e w25 ⟨vT2, rfl, hr, hb⟩
      replace P := Lib.hid (P.out.below hb)
      replace A := Lib.hid (A.out.below hb)
      replace B := Lib.hid (B.out.below hb)
      replace C := Lib.hid (C.out.below hb)
      replace U := Lib.hid (U.out.below hb)
      replace T1 := Lib.hid (T1.out.below hb)
      replace HB := Lib.hid (bnext HB.out hb)
      have T2 := Lib.hid hr
      clear hb HC hr
      have hC := pMeet _ _ p gC gB w25 HOK.out C.out B.out
      have HC := Lib.hid hC
      clear hC
      go_wp2_with fail
      refine HC.out.mono ?_
      rintro e w26 ⟨vT3, rfl, hr, hb⟩
      replace P := Lib.hid (P.out.below hb)
      replace A := Lib.hid (A.out.below hb)
      replace B := Lib.hid (B.out.below hb)
      replace C := Lib.hid (C.out.below hb)
      replace U := Lib.hid (U.out.below hb)
      replace T1 := Lib.hid (T1.out.below hb)
      replace T2 := Lib.hid (T2.out.below hb)
      replace HB := Lib.hid (bnext HB.out hb)
      have T3 := Lib.hid hr
      clear hb HC hr
      have hC := pUnion _ _ p _ _ w26 HOK.out T2.out T3.out
      have HC := Lib.hid hC
      clear hC
      go_wp2_with fail
      refine HC.out.mono ?_
      rintro e w27 ⟨vT4, rfl, hr, hb⟩
      replace P := Lib.hid (P.out.below hb)
      replace A := Lib.hid (A.out.below hb)
      replace B := Lib.hid (B.out.below hb)
      replace C := Lib.hid (C.out.below hb)
      replace U := Lib.hid (U.out.below hb)
      replace T1 := Lib.hid (T1.out.below hb)
      replace T2 := Lib.hid (T2.out.below hb)
      replace T3 := Lib.hid (T3.out.below hb)
      replace HB := Lib.hid (bnext HB.out hb)
      have T4 := Lib.hid hr
      clear hb HC hr
      have hC := pEqual _ _ _ _ w27 T1.out T4.out (by rw [CM.mn_dist])
      have HC := Lib.hid hC
      clear hC
      go_wp2_with fail
      refine HC.out.mono ?_
      rintro e w28 ⟨rfl, hb⟩
      clear T1
      clear T2
      clear T3
      clear T4
      clear P
      replace A := Lib.hid (A.out.below hb)
      replace B := Lib.hid (B.out.below hb)
      replace C := Lib.hid (C.out.below hb)
      replace U := Lib.hid (U.out.below hb)
      replace HB := Lib.hid (bnext HB.out hb)
      clear hb HC
      have hC := cAwake w28
      have HC := Lib.hid hC
      clear hC
      go_wp2_with fail
      refine HC.out.mono ?_
      rintro e w29 ⟨rfl, hb⟩
      replace A := Lib.hid (A.out.below hb)
      replace B := Lib.hid (B.out.below hb)
      replace C := Lib.hid (C.out.below hb)
      replace U := Lib.hid (U.out.below hb)
      replace HB := Lib.hid (bnext HB.out hb)
      clear hb HC
      go_wp2
      go_ret
      exact ⟨rfl, HB.out⟩

set_option maxRecDepth 100000 in
set_option maxHeartbeats 4000000 in
theorem lConfigVectors (v : Value) (l : List Int) (x y : Int) (w : World) (h : RdI w v l) (hl : l.length ≤ 4611686018427387904) :
    Calls Try.prog 6 #[v, .int .i64 x, .int .i64 y] w fun e w' => e = .returned (.bool true) ∧ Below w.heap.size w w' := by
  have HP := Lib.hid (kPool v l w h hl)
  obtain ⟨ad, cp, rfl, _, _⟩ := h.shape
  clear h hl
  have HB := Lib.hid (Below.refl w.heap.size w)
  go_enter Try.func6, Try.ntmps6
  go_wp2_with fail
  refine HP.out.mono ?_
  rintro e w1 ⟨vp, p, rfl, hr, hok, hb⟩
  replace HB := Lib.hid (bnext HB.out hb)
  have P := Lib.hid hr
  have HOK := Lib.hid hok
  have hp9 := hok.nine
  clear hr hok hb HP
  have hC := kPart _ _ x w1 P.out (by omega)
  have HC := Lib.hid hC
  clear hC
  go_wp2_with fail
  refine HC.out.mono ?_
  rintro e w2 ⟨vA, gA, rfl, hr, hb⟩
  replace P := Lib.hid (P.out.below hb)
  replace HB := Lib.hid (bnext HB.out hb)
  have A := Lib.hid hr
  clear hb HC hr
  have hC := kPart _ _ y w2 P.out (by omega)
  have HC := Lib.hid hC
  clear hC
  go_wp2_with fail
  refine HC.out.mono ?_
  rintro e w3 ⟨vB, gB, rfl, hr, hb⟩
  replace P := Lib.hid (P.out.below hb)
  replace A := Lib.hid (A.out.below hb)
  replace HB := Lib.hid (bnext HB.out hb)
  have B := Lib.hid hr
  clear hb HC hr
  have hla := CM.vo_len (CM.rs p gA)
  have hlb := CM.vo_len (CM.rs p gB)
  have hra := CM.rs_len p gA
  have hrb := CM.rs_len p gB
  have HVA := Lib.hid (CM.vo_spec (HOK.out.rs gA)).1
  have HVB := Lib.hid (CM.vo_spec (HOK.out.rs gB)).1
  have hC := pVector _ p gA w3 HOK.out A.out
  have HC := Lib.hid hC
  clear hC
  go_wp2_with fail
  refine HC.out.mono ?_
  rintro e w4 ⟨vV, rfl, ho, hb⟩
  replace P := Lib.hid (P.out.below hb)
  replace A := Lib.hid (A.out.below hb)
  replace B := Lib.hid (B.out.below hb)
  replace HB := Lib.hid (bnext HB.out hb)
  have V := Lib.hid ho
  clear hb HC ho
  have hC := pVector _ p gB w4 HOK.out B.out
  have HC := Lib.hid hC
  clear hC
  go_wp2_with fail
  refine HC.out.mono ?_
  rintro e w5 ⟨vX, rfl, ho, hb⟩
  replace P := Lib.hid (P.out.below hb)
  replace A := Lib.hid (A.out.below hb)
  replace B := Lib.hid (B.out.below hb)
  replace V := Lib.hid (V.out.below hb)
  replace HB := Lib.hid (bnext HB.out hb)
  have X := Lib.hid ho
  clear hb HC ho
  have hC := pUnion _ _ p gA gB w5 HOK.out A.out B.out
  have HC := Lib.hid hC
  clear hC
  go_wp2_with fail
  refine HC.out.mono ?_
  rintro e w6 ⟨vU, rfl, hr, hb⟩
  replace P := Lib.hid (P.out.below hb)
  replace A := Lib.hid (A.out.below hb)
  replace B := Lib.hid (B.out.below hb)
  replace V := Lib.hid (V.out.below hb)
  replace X := Lib.hid (X.out.below hb)
  replace HB := Lib.hid (bnext HB.out hb)
  have U := Lib.hid hr
  clear hb HC hr
  have hC := pVector _ p _ w6 HOK.out U.out
  have HC := Lib.hid hC
  clear hC
  go_wp2_with fail
  refine HC.out.mono ?_
  rintro e w7 ⟨vT1, rfl, ho, hb⟩
  replace P := Lib.hid (P.out.below hb)
  replace A := Lib.hid (A.out.below hb)
  replace B := Lib.hid (B.out.below hb)
  replace V := Lib.hid (V.out.below hb)
  replace X := Lib.hid (X.out.below hb)
  replace U := Lib.hid (U.out.below hb)
  replace HB := Lib.hid (bnext HB.out hb)
  have T1 := Lib.hid ho
  clear hb HC ho
  have hC := VX.rJoin _ _ (CM.vo (CM.rs p gA)) (CM.vo (CM.rs p gB)) w7 (OwnE.rdV V.out) (OwnE.rdV X.out) HVB.out (by omega) (by omega)
  have HC := Lib.hid hC
  clear hC
  go_wp2_with fail
  refine HC.out.mono ?_
  rintro e w8 ⟨vT2, rfl, ho, hb⟩
  replace P := Lib.hid (P.out.below hb)
  replace A := Lib.hid (A.out.below hb)
  replace B := Lib.hid (B.out.below hb)
  replace V := Lib.hid (V.out.below hb)
  replace X := Lib.hid (X.out.below hb)
  replace U := Lib.hid (U.out.below hb)
  replace T1 := Lib.hid (T1.out.below hb)
  replace HB := Lib.hid (bnext HB.out hb)
  have T2 := Lib.hid (vx_ownE ho)
  clear hb HC ho
  have hC := VX.rEqual _ _ _ _ w8 (OwnE.rdV T1.out) (OwnE.rdV T2.out)
  rw [CM.vo_mx HOK.out, decide_eq_true rfl] at hC
  have HC := Lib.hid hC
  clear hC
  go_wp2_with fail
  refine HC.out.mono ?_
  rintro e w9 ⟨rfl, hb⟩
  clear T1
  clear T2
  clear U
  replace P := Lib.hid (P.out.below hb)
  replace A := Lib.hid (A.out.below hb)
  replace B := Lib.hid (B.out.below hb)
  replace V := Lib.hid (V.out.below hb)
  replace X := Lib.hid (X.out.below hb)
  replace HB := Lib.hid (bnext HB.out hb)
  clear hb HC
  have hC := pMeet _ _ p gA gB w9 HOK.out A.out B.out
  have HC := Lib.hid hC
  clear hC
  go_wp2_with fail
  refine HC.out.mono ?_
  rintro e w10 ⟨vM, rfl, hr, hb⟩
  replace P := Lib.hid (P.out.below hb)
  replace A := Lib.hid (A.out.below hb)
  replace B := Lib.hid (B.out.below hb)
  replace V := Lib.hid (V.out.below hb)
  replace X := Lib.hid (X.out.below hb)
  replace HB := Lib.hid (bnext HB.out hb)
  have M := Lib.hid hr
  clear hb HC hr
  have hC := pVector _ p _ w10 HOK.out M.out
  have HC := Lib.hid hC
  clear hC
  go_wp2_with fail
  refine HC.out.mono ?_
  rintro e w11 ⟨vT1, rfl, ho, hb⟩
  replace P := Lib.hid (P.out.below hb)
  replace A := Lib.hid (A.out.below hb)
  replace B := Lib.hid (B.out.below hb)
  replace V := Lib.hid (V.out.below hb)
  replace X := Lib.hid (X.out.below hb)
  replace M := Lib.hid (M.out.below hb)
  replace HB := Lib.hid (bnext HB.out hb)
  have T1 := Lib.hid ho
  clear hb HC ho
  have hC := VX.rMeet _ _ (CM.vo (CM.rs p gA)) (CM.vo (CM.rs p gB)) w11 (OwnE.rdV V.out) (OwnE.rdV X.out) (by omega)
  have HC := Lib.hid hC
  clear hC
  go_wp2_with fail
  refine HC.out.mono ?_
  rintro e w12 ⟨vT2, rfl, ho, hb⟩
  replace P := Lib.hid (P.out.below hb)
  replace A := Lib.hid (A.out.below hb)
  replace B := Lib.hid (B.out.below hb)
  replace V := Lib.hid (V.out.below hb)
  replace X := Lib.hid (X.out.below hb)
  replace M := Lib.hid (M.out.below hb)
  replace T1 := Lib.hid (T1.out.below hb)
  replace HB := Lib.hid (bnext HB.out hb)
  have T2 := Lib.hid (vx_ownE ho)
  clear hb HC ho
  have hC := VX.rEqual _ _ _ _ w12 (OwnE.rdV T1.out) (OwnE.rdV T2.out)
  rw [CM.vo_mn HOK.out, decide_eq_true rfl] at hC
  have HC := Lib.hid hC
  clear hC
  go_wp2_with fail
  refine HC.out.mono ?_
  rintro e w13 ⟨rfl, hb⟩
  clear T1
  clear T2
  clear M
  replace P := Lib.hid (P.out.below hb)
  replace A := Lib.hid (A.out.below hb)
  replace B := Lib.hid (B.out.below hb)
  replace V := Lib.hid (V.out.below hb)
  replace X := Lib.hid (X.out.below hb)
  replace HB := Lib.hid (bnext HB.out hb)
  clear hb HC
  have HLE := Lib.hid (CM.cons_le HOK.out gA gB)
  obtain ⟨Y, hY⟩ : ∃ b, b = CM.cons (CM.rs p gA) (CM.rs p gB) := ⟨_, rfl⟩
  rw [← hY] at HLE
  have HY := Lib.hid hY
  have hyy : (Y == Y) = true := by cases Y <;> rfl
  clear hY
  have hC := pContains _ _ p gA gB w13 HOK.out A.out B.out
  rw [← HY.out] at hC
  have HC := Lib.hid hC
  clear hC
  go_wp2_with fail
  refine HC.out.mono ?_
  rintro e w14 ⟨rfl, hb⟩
  replace P := Lib.hid (P.out.below hb)
  replace A := Lib.hid (A.out.below hb)
  replace B := Lib.hid (B.out.below hb)
  replace V := Lib.hid (V.out.below hb)
  replace X := Lib.hid (X.out.below hb)
  replace HB := Lib.hid (bnext HB.out hb)
  clear hb HC
  have hC := VX.rLessEqual _ _ _ _ w14 (OwnE.rdV X.out) (OwnE.rdV V.out)
  rw [← HLE.out] at hC
  have HC := Lib.hid hC
  clear hC
  go_wp2_with fail
  refine HC.out.mono ?_
  rintro e w15 ⟨rfl, hb⟩
  clear X
  clear B
  replace P := Lib.hid (P.out.below hb)
  replace A := Lib.hid (A.out.below hb)
  replace V := Lib.hid (V.out.below hb)
  replace HB := Lib.hid (bnext HB.out hb)
  clear hb HC
  have hC := gRestrict _ _ p (CM.vo (CM.rs p gA)) w15 P.out (OwnE.rdV V.out) HVA.out (by omega) (by omega) (all_len HOK.out.all)
  have HC := Lib.hid hC
  clear hC
  go_wp2_with fail
  refine HC.out.mono ?_
  rintro e w16 ⟨vR, rfl, hr, hb⟩
  replace P := Lib.hid (P.out.below hb)
  replace A := Lib.hid (A.out.below hb)
  replace V := Lib.hid (V.out.below hb)
  replace HB := Lib.hid (bnext HB.out hb)
  have R := Lib.hid hr
  clear hb HC hr
  have hC := pEqual _ _ _ _ w16 R.out A.out (CM.rs_vo HOK.out gA)
  have HC := Lib.hid hC
  clear hC
  go_wp2_with fail
  refine HC.out.mono ?_
  rintro e w17 ⟨rfl, hb⟩
  replace P := Lib.hid (P.out.below hb)
  replace A := Lib.hid (A.out.below hb)
  replace V := Lib.hid (V.out.below hb)
  replace R := Lib.hid (R.out.below hb)
  replace HB := Lib.hid (bnext HB.out hb)
  clear hb HC
  have hC := cAwake w17
  have HC := Lib.hid hC
  clear hC
  go_wp2_with fail
  refine HC.out.mono ?_
  rintro e w18 ⟨rfl, hb⟩
  replace P := Lib.hid (P.out.below hb)
  replace A := Lib.hid (A.out.below hb)
  replace V := Lib.hid (V.out.below hb)
  replace R := Lib.hid (R.out.below hb)
  replace HB := Lib.hid (bnext HB.out hb)
  clear hb HC
  go_wp2
  go_ret
  exact ⟨rfl, HB.out⟩

end Go.Proofs.Yteeegpojfbgkfaa
