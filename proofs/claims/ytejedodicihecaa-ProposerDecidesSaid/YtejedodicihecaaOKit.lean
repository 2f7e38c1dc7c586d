/-
  The calls of the laws' same and small. Conditions: what comes in reads.
-/
import Derived.Test.YtejedodicihecaaORef
namespace Go.Proofs.Ytejedodicihecaa
open Go.RowKit
open VM (Ent)

theorem rEqI (va vb : Value) (xs : List Int) (w : World) (ha : RdI w va xs) (hb : RdI w vb xs) :
    Calls Try.prog 18 #[va, vb] w fun e w' => e = .returned (.bool true) ∧ Below w.heap.size w w' :=
  (rEqInts va vb xs xs w ha hb).mono fun _ _ h => ⟨by rw [h.1, decide_eq_true rfl], h.2⟩
theorem rEqV (va vb : Value) (xs : List Ent) (w : World) (ha : VX.RdV w va xs) (hb : VX.RdV w vb xs) :
    Calls Try.prog 15 #[va, vb] w fun e w' => e = .returned (.bool true) ∧ Below w.heap.size w w' :=
  (VX.rEqual va vb xs xs w ha hb).mono fun _ _ h => ⟨by rw [h.1, decide_eq_true rfl], h.2⟩

set_option maxRecDepth 100000 in
set_option maxHeartbeats 4000000 in
theorem kSame (p q : Value) (s : PM.Ps) (w : World) (hp : PrV w p s) (hq : PrV w q s) :
    Calls Try.prog 10 #[p, q] w fun e w' => e = .returned (.bool true) ∧ Below w.heap.size w w' := by
  obtain ⟨ac, vl, rd, ks, dc⟩ := s
  obtain ⟨ua, uc, ka, kc, rfl, hu, hk⟩ := hp.shape
  obtain ⟨ua', uc', ka', kc', rfl, hu', hk'⟩ := hq.shape
  simp only at *
  obtain ⟨w0, hw0, hA, hb0, hs0⟩ := oneP 31 w (.int .i64 ac) (.slice ua vl.length uc) (.int .i64 rd) (.slice ka ks.length kc) (.bool dc)
  obtain ⟨w1, hw1, hZ, hb1, hs1⟩ := oneP 33 w0 (.int .i64 ac) (.slice ua' vl.length uc') (.int .i64 rd) (.slice ka' ks.length kc') (.bool dc)
  rw [hs0] at hZ
  rw [← hw0] at hw1
  have HW := Lib.hid hw1
  have HA := Lib.hid (below_blk hA hb1)
  have HZ := Lib.hid hZ
  have HB := Lib.hid (bnext hb0 hb1)
  have H1 := Lib.hid (rEqV _ _ vl w1 (hu.below HB.out) (hu'.below HB.out))
  have H2 := Lib.hid (fun w' (h : Below w1.heap.size w1 w') => rEqI _ _ ks w' ((hk.below HB.out).below h) ((hk'.below HB.out).below h))
  obtain ⟨c0, c1, c2, c3, c4⟩ := five HA.out
  obtain ⟨d0, d1, d2, d3, d4⟩ := five HZ.out
  have e0 : (ac == ac) = true := beqT rfl
  clear hw0 hA hb0 hs0 hs1 hw1 hZ hb1 hu hk hu' hk' hp hq
  go_enter Try.func10, Try.ntmps10
  go_upto_region 1 with fail
  rw [HW.out]
  clear HW
  go_wp2_with fail
  refine H1.out.mono ?_
  rintro e w2 ⟨rfl, hb2⟩
  have HB2 := Lib.hid (bnext HB.out hb2)
  have H3 := Lib.hid (H2.out w2 hb2)
  have HA2 := Lib.hid (below_blk HA.out hb2)
  have HZ2 := Lib.hid (below_blk HZ.out hb2)
  clear H1 H2 hb2 HA HZ HB c0 c1 c2 c3 c4 d0 d1 d2 d3 d4 e0
  obtain ⟨c0, c1, c2, c3, c4⟩ := five HA2.out
  obtain ⟨d0, d1, d2, d3, d4⟩ := five HZ2.out
  have e1 : (rd == rd) = true := beqT rfl
  go_wp2_with fail
  refine H3.out.mono ?_
  rintro e w3 ⟨rfl, hb3⟩
  have HB3 := Lib.hid (bnext HB2.out hb3)
  have c5 := (five (below_blk HA2.out hb3)).2.2.2.2
  have d5 := (five (below_blk HZ2.out hb3)).2.2.2.2
  have e2 : (dc == dc) = true := by simp
  clear H3 HA2 HZ2 HB2 hb3 c0 c1 c2 c3 c4 d0 d1 d2 d3 d4 e1
  go_wp2
  go_ret
  exact ⟨rfl, HB3.out⟩

set_option maxRecDepth 100000 in
set_option maxHeartbeats 4000000 in
theorem kSmall (v : Value) (l : List Rq) (w : World) (h : RdRp w v l) :
    Calls Try.prog 7 #[v] w fun e w' => Says16 e (Few l) ∧ Below w.heap.size w w' := by
  obtain ⟨ad, cp, rfl, hcp, _⟩ := h.shape
  have H := Lib.hid h
  clear h
  go_enter Try.func7, Try.ntmps7
  go_wp2
  go_loopw [3] (fun i wr => ∃ k : Nat, k ≤ l.length ∧ i = .int .i64 k ∧ Hid (Below w.heap.size w wr) ∧ Hid (∀ (m : Nat) (y : Rq), m < k → l[m]? = some y → y.2.2.1.length ≤ 20 ∧ VM.Val 0 y.2.2.1)) (fun i _ => l.length - (intOf i).toNat)
  case atStart => exact ⟨0, Nat.zero_le _, rfl, Below.refl _ _, fun m _ hm => by omega⟩
  case round =>
    obtain ⟨k, hk, rfl, hbl, hup⟩ := hrel
    by_cases hlt : k < l.length
    · have hq : (k : Int) < (l.length : Int) := by omega
      have hk2 := List.getElem?_eq_getElem hlt
      generalize l[k] = y at hk2
      obtain ⟨yi, yj, x, yb⟩ := y
      obtain ⟨b, o, xa, xc, hi, hbw, c0, c1, c2, c3, hrx⟩ := (H.out.below hbl.out).at_ rfl k yi yj x yb hk2
      by_cases h20 : 20 < x.length
      · have h20i : (20 : Int) < (x.length : Int) := by omega
        clear hrx hk2
        go_wp2
        go_ret
        exact ⟨⟨false, rfl, by intro h; cases h⟩, hbl.out⟩
      · have h20i : ¬ ((20 : Int) < (x.length : Int)) := by omega
        have hv := VX.rValidate _ x wr hrx
        obtain ⟨E, hE⟩ : ∃ E, E = VM.err 0 x := ⟨_, rfl⟩
        rw [← hE] at hv
        have HV := Lib.hid hv
        clear hv hrx
        by_cases h0 : E = 0
        case neg =>
          have hne : (E != 0) = true := bneT h0
          clear h0 hE hk2
          go_wp2_with fail
          refine HV.out.mono ?_
          rintro e w1 ⟨rfl, hb1⟩
          have HB1 := Lib.hid (bnext hbl.out hb1)
          clear c0 c1 c2 c3 hi hbw HV hb1 hbl
          go_wp2
          go_ret
          exact ⟨⟨false, rfl, by intro h; cases h⟩, HB1.out⟩
        subst h0
        have HUP := Lib.hid (show ∀ (m : Nat) (y : Rq), m < k + 1 → l[m]? = some y → y.2.2.1.length ≤ 20 ∧ VM.Val 0 y.2.2.1 from fun m y hm hy => by
          by_cases h1 : m = k
          · subst h1
            rw [hk2] at hy
            cases hy
            exact ⟨by show x.length ≤ 20; omega, (VM.err_val (Int.le_refl 0)).1 hE.symm⟩
          · exact hup.out m y (by omega) hy)
        clear hE hk2
        go_wp2_with fail
        refine HV.out.mono ?_
        rintro e w1 ⟨rfl, hb1⟩
        have HB1 := Lib.hid (bnext hbl.out hb1)
        clear c0 c1 c2 c3 hi hbw HV hb1 hbl
        go_wp2
        go_roundw
        case rel => exact ⟨k + 1, by omega, by go_num, HB1, HUP⟩
        case measure => simp [intOf]; omega
    · have hq : ¬ ((k : Int) < (l.length : Int)) := by omega
      obtain rfl : k = l.length := by omega
      by_cases h60 : l.length ≤ 60
      · have h60i : (l.length : Int) ≤ 60 := by omega
        go_wp2
        go_ret
        refine ⟨⟨_, rfl, fun _ => ⟨fun x hx => ?_, h60⟩⟩, hbl.out⟩
        obtain ⟨m, hm, rfl⟩ := List.getElem_of_mem hx
        exact hup.out m _ hm (List.getElem?_eq_getElem hm)
      · have h60i : ¬ ((l.length : Int) ≤ 60) := by omega
        go_wp2
        go_ret
        exact ⟨⟨false, rfl, by intro h; cases h⟩, hbl.out⟩
end Go.Proofs.Ytejedodicihecaa
