/-
  The calls of command.formatRule and of command.Format: what DM.fmt gives. Conditions: the library's variables hold what they are laid with.
-/
import Derived.Test.YthgnhaimdkcmeaaGreatDoorDPrs
namespace Go.Proofs.YthgnhaimdkcmeaaGreatDoor
open Go.RowKit Go.Joins Go.Shelf
open JM (Chg)

namespace DM
/-- The words of a rule; of a change. -/
def fmtR (a b c : Int) : List UInt8 :=
  if a = 1 then sRule ++ 32 :: sMaj else if a = 2 then sRule ++ 32 :: sWtd else if a = 3 then sRule ++ 32 :: sGrid ++ 32 :: Lib.itoa b else sRule ++ 32 :: sMask ++ 32 :: Lib.itoa c
def fmt : Chg → List UInt8
  | (k, s, t, v, a, b, c) =>
    if JM.errCh (ver (k, s, t, v, a, b, c)) ≠ 0 then []
    else if k = 1 then sJoin ++ 32 :: Lib.itoa s ++ 32 :: sWeight ++ 32 :: Lib.itoa t
    else if k = 2 then sRemove ++ 32 :: Lib.itoa s
    else if k = 3 then sWeight ++ 32 :: Lib.itoa s ++ 32 :: Lib.itoa t
    else fmtR a b c
theorem fit_bd {n m : Int} (h : ¬ JM.fit n m = false) (hm : 0 ≤ m) : 0 ≤ n ∧ n ≤ m := by
  have h2 : JM.fit n m = true := by simpa using h
  unfold JM.fit at h2
  have := of_decide_eq_true h2
  split at this <;> omega
theorem bounds {k s t v a b c : Int} (h : JM.errCh (ver (k, s, t, v, a, b, c)) = 0) : (k = 1 ∨ k = 2 ∨ k = 3 ∨ k = 4) ∧ 0 ≤ s ∧ s ≤ 12 ∧ 0 ≤ t ∧ t ≤ 9 ∧ (k = 4 → (a = 1 ∨ a = 2 ∨ a = 3 ∨ a = 4) ∧ 0 ≤ b ∧ b ≤ 12 ∧ 0 ≤ c ∧ c ≤ 12) := by
  unfold ver JM.errCh JM.errC at h
  dsimp only at h
  by_cases h1 : k < 1 ∨ 4 < k
  · rw [if_pos h1] at h; cases h
  rw [if_neg h1] at h
  by_cases h2 : JM.fit s (JM.srvOf k) = false
  · rw [if_pos h2] at h; cases h
  rw [if_neg h2] at h
  by_cases h3 : JM.fit t (JM.wtOf k) = false
  · rw [if_pos h3] at h; cases h
  rw [if_neg h3] at h
  have b2 := fit_bd h2 (by unfold JM.srvOf; split <;> omega)
  have b3 := fit_bd h3 (by unfold JM.wtOf; split <;> omega)
  have c2 : JM.srvOf k ≤ 12 := by unfold JM.srvOf; split <;> omega
  have c3 : JM.wtOf k ≤ 9 := by unfold JM.wtOf; split <;> omega
  refine ⟨by omega, b2.1, by omega, b3.1, by omega, fun hk => ?_⟩
  by_cases h4 : JM.fit (if v = 0 ∧ (k = 3 ∨ k = 4) then 1 else v) (JM.verOf k) = false
  · rw [if_pos h4] at h; cases h
  rw [if_neg h4, if_pos hk] at h
  unfold JM.errR at h
  by_cases g1 : a < 1 ∨ 4 < a
  · rw [if_pos g1] at h; cases h
  rw [if_neg g1] at h
  by_cases g2 : (a = 3 ∧ (b < 1 ∨ 12 < b)) ∨ (a ≠ 3 ∧ b ≠ 0)
  · rw [if_pos g2] at h; cases h
  rw [if_neg g2] at h
  by_cases g3 : (a = 4 ∧ (c < 0 ∨ 12 < c)) ∨ (a ≠ 4 ∧ c ≠ 0)
  · rw [if_pos g3] at h; cases h
  omega
end DM

def Fpost (l : List UInt8) (w : World) (e : Ending) (w' : World) : Prop := ∃ S : ByteArray, e = .returned (.string S) ∧ S.data.toList = l ∧ Below w.heap.size w w'

theorem itoa_len {n : Int} (h0 : 0 ≤ n) (h1 : n ≤ 9999) : (Lib.itoa n).length ≤ 4 := by
  have h := (DM.isN_itoa (n := n.toNat) (by omega)).1
  have e : Lib.itoa n = Lib.decDigits n.toNat := by unfold Lib.itoa; rw [if_neg (by omega)]
  rw [e]
  unfold DM.isN at h
  simp only [Bool.and_eq_true, decide_eq_true_eq] at h
  exact h.1.2.1
theorem cItoaS (n : Int) (w : World) (h0 : 0 ≤ n) (h1 : n ≤ 9999) (hV : Vars w) :
    Calls Tryz.prog 30 #[.int .i64 n] w fun e w' => ∃ S : ByteArray, e = .returned (.string S) ∧ (S.data.toList = Lib.itoa n ∧ S.size ≤ 4) ∧ Below w.heap.size w w' := by
  refine (cItoa n w h0 (by omega) hV).mono ?_
  rintro e w' ⟨rfl, hb⟩
  refine ⟨_, rfl, ⟨by simp, ?_⟩, hb⟩
  have := itoa_len h0 h1
  show (Lib.itoa n).toArray.size ≤ 4
  simpa using this
theorem row3_atF {w : World} {g : Nat} {t : TypeId} {a0 a1 a2 : Value} (h : w.heap[g]? = some (.cells #[a0, a1, a2] t (0, 0))) :
    w.cell? ⟨g, 0, none⟩ = some a0 ∧ w.cell? ⟨g, 1, none⟩ = some a1 ∧ w.cell? ⟨g, 2, none⟩ = some a2 := by
  refine ⟨?_, ?_, ?_⟩ <;> simp [World.cell?, h]
theorem fmt_eq {k s t v a b c : Int} (h : JM.errCh (DM.ver (k, s, t, v, a, b, c)) = 0) : DM.fmt (k, s, t, v, a, b, c) = if k = 1 then DM.sJoin ++ 32 :: Lib.itoa s ++ 32 :: DM.sWeight ++ 32 :: Lib.itoa t else if k = 2 then DM.sRemove ++ 32 :: Lib.itoa s else if k = 3 then DM.sWeight ++ 32 :: Lib.itoa s ++ 32 :: Lib.itoa t else DM.fmtR a b c := by
  show (if JM.errCh (DM.ver (k, s, t, v, a, b, c)) ≠ 0 then _ else _) = _
  rw [if_neg (by simpa using h)]
theorem fmt_bad {k s t v a b c : Int} (h : JM.errCh (DM.ver (k, s, t, v, a, b, c)) ≠ 0) : DM.fmt (k, s, t, v, a, b, c) = [] := by
  show (if JM.errCh (DM.ver (k, s, t, v, a, b, c)) ≠ 0 then _ else _) = _
  rw [if_pos h]

set_option maxRecDepth 100000 in
set_option maxHeartbeats 1000000 in
theorem cFormatRule (a b c : Int) (w : World) (hV : Vars w) (ha : a = 1 ∨ a = 2 ∨ a = 3 ∨ a = 4) (hb : 0 ≤ b ∧ b ≤ 12) (hc : 0 ≤ c ∧ c ≤ 12) :
    Calls Tryz.prog 31 #[.agg #[.int .i64 a, .int .i64 b, .int .i64 c]] w (Fpost (DM.fmtR a b c) w) := by
  have hb0 := below_fresh w (.cells #[.int .i64 a, .int .i64 b, .int .i64 c] 28)
  have hx := heap_alloc_new w (.cells #[.int .i64 a, .int .i64 b, .int .i64 c] 28)
  obtain ⟨w1, hw1⟩ : ∃ w1, w.alloc (.cells #[.int .i64 a, .int .i64 b, .int .i64 c] 28) = w1 := ⟨_, rfl⟩
  rw [hw1] at hb0 hx
  have HB0 := Lib.hid hb0
  have HW := Lib.hid hw1
  obtain ⟨c0, c1, c2⟩ := row3_atF hx
  have HB := Lib.hid (cItoaS b w1 (by omega) (by omega) (hV.below hb0))
  have HC := Lib.hid (cItoaS c w1 (by omega) (by omega) (hV.below hb0))
  clear hb hc hV hb0 hw1 hx
  rcases ha with rfl | rfl | rfl | rfl
  all_goals
    go_enter Tryz.func31, Tryz.ntmps31
    go_upto_region 1 with fail
    rw [HW.out]
  · go_wp2
    go_ret
    exact ⟨_, rfl, rfl, HB0.out⟩
  · go_wp2
    go_ret
    exact ⟨_, rfl, rfl, HB0.out⟩
  · go_wp2_with fail
    refine HB.out.mono ?_
    rintro e w' ⟨S, rfl, ⟨hS, hz⟩, hb2⟩
    have HS := Lib.hid hS
    clear hS
    go_wp2
    go_ret
    exact ⟨_, rfl, by simp [DM.fmtR, DM.sRule, DM.sGrid, HS.out], bnext HB0.out hb2⟩
  · go_wp2_with fail
    refine HC.out.mono ?_
    rintro e w' ⟨S, rfl, ⟨hS, hz⟩, hb2⟩
    have HS := Lib.hid hS
    clear hS
    go_wp2
    go_ret
    exact ⟨_, rfl, by simp [DM.fmtR, DM.sRule, DM.sMask, HS.out], bnext HB0.out hb2⟩

set_option maxRecDepth 100000 in
set_option maxHeartbeats 8000000 in
theorem cFormat (k s t v a b c : Int) (w : World) (hV : Vars w) : Calls Tryz.prog 14 #[cv k s t v a b c] w (Fpost (DM.fmt (k, s, t, v, a, b, c)) w) := by
  have hb0 := below_fresh w (cBox k s t v a b c)
  have hx := heap_alloc_new w (cBox k s t v a b c)
  obtain ⟨w1, hw1⟩ : ∃ w1, w.alloc (cBox k s t v a b c) = w1 := ⟨_, rfl⟩
  rw [hw1] at hb0 hx
  have HB0 := Lib.hid hb0
  have HW := Lib.hid hw1
  have HX := Lib.hid hx
  obtain ⟨⟨c0, c1, c2, c3, c4, c5, c6⟩, _⟩ := row7_atF hx
  have HV := Lib.hid (cValidateV k s t v a b c w1)
  obtain ⟨E, hE⟩ : ∃ E, JM.errCh (DM.ver (k, s, t, v, a, b, c)) = E := ⟨_, rfl⟩
  rw [hE] at HV
  clear hb0 hw1 hx
  by_cases he : E = 0
  case neg =>
    have h1 : (E == 0) = false := by simpa using he
    have h2 : (E != 0) = true := by simpa using he
    have HF := Lib.hid (fmt_bad (by rw [hE]; exact he))
    clear he hE hV
    go_enter Tryz.func14, Tryz.ntmps14
    go_upto_region 1 with fail
    rw [HW.out]
    go_wp2_with fail
    refine HV.out.mono ?_
    rintro e w' ⟨rfl, hb⟩
    go_wp2
    go_ret
    exact ⟨_, rfl, HF.out.symm, bnext HB0.out hb⟩
  subst he
  obtain ⟨hk, s0, s1, t0, t1, hr⟩ := DM.bounds hE
  have HS := Lib.hid (fun w' (hb : Below w.heap.size w w') => cItoaS s w' s0 (by omega) (hV.below hb))
  have HT := Lib.hid (fun w' (hb : Below w.heap.size w w') => cItoaS t w' t0 (by omega) (hV.below hb))
  have HR := Lib.hid (fun (h : k = 4) w' (hb : Below w.heap.size w w') => cFormatRule a b c w' (hV.below hb) (hr h).1 ⟨(hr h).2.1, (hr h).2.2.1⟩ (hr h).2.2.2)
  have HF := Lib.hid (fmt_eq hE)
  clear hE s0 s1 t0 t1 hr hV
  have HK := Lib.hid hk
  clear hk
  go_enter Tryz.func14, Tryz.ntmps14
  go_upto_region 1 with fail
  rw [HW.out]
  go_wp2_with fail
  refine HV.out.mono ?_
  rintro e w' ⟨rfl, hb⟩
  have HX2 := Lib.hid (below_block HX.out hb)
  replace hb := bnext HB0.out hb
  clear c0 c1 c2 c3 c4 c5 c6
  obtain ⟨⟨c0, c1, c2, c3, c4, c5, c6⟩, _⟩ := row7_atF HX2.out
  go_wp2_with fail
  go_region_law (first
    | (go_simp; go_at_call 30; refine (HS.out _ hb.drew).mono ?_; rintro e w2 ⟨S, rfl, ⟨hS, hSz⟩, hb2⟩; have HX3 := Lib.hid (below_block (show w'.drew.heap[w.heap.size]? = _ from HX2.out) hb2); have HIS := Lib.hid hS; clear hS; replace hb2 := bnext hb.drew hb2; obtain ⟨⟨d0, d1, d2, d3, d4, d5, d6⟩, _⟩ := row7_atF HX3.out)
    | (go_simp; go_at_call 30; refine (HT.out _ hb2).mono ?_; rintro e w3 ⟨T, rfl, ⟨hT, hTz⟩, hb3⟩; have HX4 := Lib.hid (below_block HX3.out hb3); have HIT := Lib.hid hT; clear hT; replace hb3 := bnext hb2 hb3))
  all_goals
    clear c0 c1 c2 c3 c4 c5 c6 d0 d1 d2 d3 d4 d5 d6 hb hb2 HX HX2 HX3 HS HT HV HW HB0
    have HB3 := Lib.hid hb3
    clear hb3
    rcases HK.out with rfl | rfl | rfl | rfl
    · clear HR HK
      obtain ⟨⟨c0, c1, c2, c3, c4, c5, c6⟩, _⟩ := row7_atF HX4.out
      go_wp2
      go_ret
      exact ⟨_, rfl, by rw [HF.out]; simp [DM.sJoin, DM.sWeight, HIS.out, HIT.out], HB3.out⟩
    · clear HR HK
      obtain ⟨⟨c0, c1, c2, c3, c4, c5, c6⟩, _⟩ := row7_atF HX4.out
      go_wp2
      go_ret
      exact ⟨_, rfl, by rw [HF.out]; simp [DM.sRemove, HIS.out], HB3.out⟩
    · clear HR HK
      obtain ⟨⟨c0, c1, c2, c3, c4, c5, c6⟩, _⟩ := row7_atF HX4.out
      go_wp2
      go_ret
      exact ⟨_, rfl, by rw [HF.out]; simp [DM.sWeight, HIS.out, HIT.out], HB3.out⟩
    · obtain ⟨⟨c0, c1, c2, c3, c4, c5, c6⟩, _⟩ := row7_atF HX4.out
      go_wp2_with fail
      refine (HR.out (by first | rfl | trivial) _ HB3.out).mono ?_
      rintro e w4 ⟨U, rfl, hU, hb4⟩
      have HIU := Lib.hid hU
      clear hU
      go_wp2
      go_ret
      exact ⟨_, rfl, by rw [HF.out]; simpa using HIU.out, bnext HB3.out hb4⟩

end Go.Proofs.YthgnhaimdkcmeaaGreatDoor
