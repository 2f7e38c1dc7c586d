/-
  The calls of the reference's Receive and Propose: what they make of a proposer. Conditions: what comes in reads; valid vectors, a state that the functions return. (Written by mk_oref.py.)
-/
import Derived.Test.YtejedodicihecaaOCon
import Derived.Test.YtejedodicihecaaOIns
import Derived.Test.YtejedodicihecaaReg
namespace Go.Proofs.Ytejedodicihecaa
open Go.RowKit
open VM (Ent)

theorem seenP {G : Nat → Prop} {B : Nat} (hG : ∀ k, G k → k < B) {n : Nat} (h : B ≤ n) : ∀ k, G k → k < n := fun k hk => Nat.lt_of_lt_of_le (hG k hk) h

set_option maxRecDepth 100000 in
set_option maxHeartbeats 4000000 in
theorem rRecv (G : Nat → Prop) (p v : Value) (s : PM.Ps) (a r : Int) (xs : List Ent) (w : World) (hG : ∀ k, G k → k < w.heap.size) (hp : PrO G w p s) (hv : Off G w fun w => VX.RdV w v xs) (ok : PM.Ok s) (hx : VM.Val 0 xs) (hl : s.val.length ≤ 20000) (hlx : xs.length ≤ 20000) (hr0 : 0 ≤ s.round) (hr1 : s.round ≤ 1000000) :
    Calls Try.prog 14 #[p, .int .i64 a, .int .i64 r, v] w fun e w' => ∃ p', e = .returned (.tuple #[p', .bool (PM.rcv s a r xs).2]) ∧ PrO G w' p' (PM.rcv s a r xs).1 ∧ Below w.heap.size w w' := by
  obtain ⟨ac, vl, rd, ks, dc⟩ := s
  obtain ⟨ua, uc, ka, kc, rfl, hu, hk⟩ := hp.parts
  obtain ⟨va, vc, rfl, _, _⟩ := hv.rd.shape
  simp only at *
  obtain ⟨w0, hw0, hA, hb0, hs0⟩ := oneP 33 w (.int .i64 ac) (.slice ua vl.length uc) (.int .i64 rd) (.slice ka ks.length kc) (.bool dc)
  obtain ⟨w1, hw1, hZ, hb1, hs1⟩ := oneP 33 w0 (.int .i64 0) (.slice none 0 0) (.int .i64 0) (.slice none 0 0) (.bool false)
  rw [hs0] at hZ
  rw [← hw0] at hw1
  have HW := Lib.hid hw1
  have HA := Lib.hid (below_blk hA hb1)
  have HZ := Lib.hid hZ
  have HB := Lib.hid (bnext hb0 hb1)
  have HS := Lib.hid (show w1.heap.size = w.heap.size + 2 by rw [hs1, hs0])
  have HP := Lib.hid hp
  have HU := Lib.hid hu
  have HK := Lib.hid hk
  have HV := Lib.hid hv
  have HG := Lib.hid hG
  have HOK := Lib.hid ok
  have HX := Lib.hid hx
  have HL1 := Lib.hid hl
  have HL2 := Lib.hid hlx
  clear hw0 hA hb0 hs0 hs1 hw1 hZ hb1 hu hk hv hp hG ok hx hl hlx
  cases dc
  case true =>
    have HR := Lib.hid (PM.rcv_off (s := ⟨ac, vl, rd, ks, true⟩) (a := a) (r := r) (v := xs) (.inl rfl))
    rw [HR.out]
    obtain ⟨c0, c1, c2, c3, c4⟩ := five HA.out
    have hra := HA.out
    have hrz := HZ.out
    go_enter Try.func14, Try.ntmps14
    go_upto_region 1 with fail
    rw [HW.out]
    clear HW
    go_wp2_with (first
          | (refine wpList_load_row rfl 33 _ rfl w.heap.size rfl 33 _ (0, 0) _ hra Try.underlying33 rfl (by kernel_rfl) ?_)
          | (refine wpList_store_row rfl 33 _ _ rfl (w.heap.size + 1) _ rfl rfl 33 _ hrz (by kernel_rfl) rfl (cells5 _ _ _ _ _ _ _ _ _) ?_))
    refine proRet rfl rfl rfl (setRow_heap _ _ _ _ _ _ hrz) Try.underlying33 rfl rfl ⟨_, rfl, HP.out.below ?_, ?_⟩ <;> exact seen HB.out (by omega) (onlyR _ _ _)
  by_cases h1 : r = rd
  case neg =>
    have hne := bneT h1
    have HR := Lib.hid (PM.rcv_off (s := ⟨ac, vl, rd, ks, false⟩) (a := a) (r := r) (v := xs) (.inr (.inl h1)))
    rw [HR.out]
    obtain ⟨c0, c1, c2, c3, c4⟩ := five HA.out
    have hra := HA.out
    have hrz := HZ.out
    go_enter Try.func14, Try.ntmps14
    go_upto_region 1 with fail
    rw [HW.out]
    clear HW
    go_wp2_with (first
          | (refine wpList_load_row rfl 33 _ rfl w.heap.size rfl 33 _ (0, 0) _ hra Try.underlying33 rfl (by kernel_rfl) ?_)
          | (refine wpList_store_row rfl 33 _ _ rfl (w.heap.size + 1) _ rfl rfl 33 _ hrz (by kernel_rfl) rfl (cells5 _ _ _ _ _ _ _ _ _) ?_))
    refine proRet rfl rfl rfl (setRow_heap _ _ _ _ _ _ hrz) Try.underlying33 rfl rfl ⟨_, rfl, HP.out.below ?_, ?_⟩ <;> exact seen HB.out (by omega) (onlyR _ _ _)
  subst h1
  have hne := bneF (show r = r from rfl)
  by_cases h2 : a < 0
  · 
    have HR := Lib.hid (PM.rcv_off (s := ⟨ac, vl, r, ks, false⟩) (a := a) (r := r) (v := xs) (.inr (.inr (.inl h2))))
    rw [HR.out]
    obtain ⟨c0, c1, c2, c3, c4⟩ := five HA.out
    have hra := HA.out
    have hrz := HZ.out
    go_enter Try.func14, Try.ntmps14
    go_upto_region 1 with fail
    rw [HW.out]
    clear HW
    go_wp2_with (first
          | (refine wpList_load_row rfl 33 _ rfl w.heap.size rfl 33 _ (0, 0) _ hra Try.underlying33 rfl (by kernel_rfl) ?_)
          | (refine wpList_store_row rfl 33 _ _ rfl (w.heap.size + 1) _ rfl rfl 33 _ hrz (by kernel_rfl) rfl (cells5 _ _ _ _ _ _ _ _ _) ?_))
    refine proRet rfl rfl rfl (setRow_heap _ _ _ _ _ _ hrz) Try.underlying33 rfl rfl ⟨_, rfl, HP.out.below ?_, ?_⟩ <;> exact seen HB.out (by omega) (onlyR _ _ _)
  by_cases h3 : ac ≤ a
  · have h3' : a ≥ ac := h3
    have HR := Lib.hid (PM.rcv_off (s := ⟨ac, vl, r, ks, false⟩) (a := a) (r := r) (v := xs) (.inr (.inr (.inr h3))))
    rw [HR.out]
    obtain ⟨c0, c1, c2, c3, c4⟩ := five HA.out
    have hra := HA.out
    have hrz := HZ.out
    go_enter Try.func14, Try.ntmps14
    go_upto_region 1 with fail
    rw [HW.out]
    clear HW
    go_wp2_with (first
          | (refine wpList_load_row rfl 33 _ rfl w.heap.size rfl 33 _ (0, 0) _ hra Try.underlying33 rfl (by kernel_rfl) ?_)
          | (refine wpList_store_row rfl 33 _ _ rfl (w.heap.size + 1) _ rfl rfl 33 _ hrz (by kernel_rfl) rfl (cells5 _ _ _ _ _ _ _ _ _) ?_))
    refine proRet rfl rfl rfl (setRow_heap _ _ _ _ _ _ hrz) Try.underlying33 rfl rfl ⟨_, rfl, HP.out.below ?_, ?_⟩ <;> exact seen HB.out (by omega) (onlyR _ _ _)
  have h3' : ¬ a ≥ ac := h3
  have HN := Lib.hid (show ¬ (false = true ∨ r ≠ r ∨ a < 0 ∨ ac ≤ a) by simp; omega)
  have HQ := Lib.hid (VX.rLessEqual _ _ xs vl w1 (HV.out.below HB.out).rd (HU.out.below HB.out).rd)
  obtain ⟨c0, c1, c2, c3, c4⟩ := five HA.out
  cases hL : VM.le xs vl
  · have HR := Lib.hid (PM.rcv_new (s := ⟨ac, vl, r, ks, false⟩) (a := a) (r := r) (v := xs) HN.out hL)
    rw [HR.out]
    rw [hL] at HQ
    clear hL
    go_enter Try.func14, Try.ntmps14
    go_upto_region 1 with fail
    rw [HW.out]
    clear HW
    go_wp2_with fail
    refine HQ.out.mono ?_
    rintro e w2 ⟨rfl, hb2⟩
    have HB2 := Lib.hid (bnext HB.out hb2)
    have HA2 := Lib.hid (below_blk HA.out hb2)
    have HZ2 := Lib.hid (below_blk HZ.out hb2)
    have HS2 := Lib.hid (show w.heap.size + 2 ≤ w2.heap.size by rw [← HS.out]; exact hb2.size)
    clear HQ hb2 HA HZ HB HS c0 c1 c2 c3 c4
    obtain ⟨c0, c1, c2, c3, c4⟩ := five HA2.out
    have HJ := Lib.hid (VX.rJoin _ _ vl xs w2 (HU.out.below HB2.out).rd (HV.out.below HB2.out).rd HX.out (by have := HL1.out; omega) (by have := HL2.out; omega))
    rw [VM.rj_jn HOK.out.val HX.out] at HJ
    go_wp2_with fail
    refine HJ.out.mono ?_
    rintro e w3 ⟨v3, rfl, ho3, hb3⟩
    obtain ⟨ja, jc, rfl, _, _⟩ := ho3.rd.shape
    have HB3 := Lib.hid (bnext HB2.out hb3)
    have HA3 := Lib.hid (below_blk HA2.out hb3)
    have HZ3 := Lib.hid (below_blk HZ2.out hb3)
    have HO3 := Lib.hid (ho3.mono HS2.out)
    have HS3 := Lib.hid (Nat.le_trans HS2.out hb3.size)
    obtain ⟨J, HE⟩ : ∃ J, Hid (VM.jn vl xs = J) := ⟨_, Lib.hid rfl⟩
    rw [HE.out] at HO3 ⊢
    clear HJ ho3 hb3 HA2 HZ2 HB2 HS2 c0 c1 c2 c3 c4
    obtain ⟨c0, c1, c2, c3, c4⟩ := five HA3.out
    have g0 := unfz HA3.out
    have g1 := g0 1
    have g2 := g0 2
    have g3 := g0 3
    obtain ⟨w4, hw4⟩ : ∃ w4, ((w3.setCell ⟨w.heap.size, 1, none⟩ (.slice ja J.length jc)).setCell ⟨w.heap.size, 2, none⟩ (.int .i64 (r + 1))).setCell ⟨w.heap.size, 3, none⟩ (.slice none 0 0) = w4 := ⟨_, rfl⟩
    have hon : Only w.heap.size w3 w4 := by rw [← hw4]; exact ((Only.set 1 _).trans (Only.set 2 _)).trans (Only.set 3 _)
    have HA4 := Lib.hid (show w4.heap[w.heap.size]? = some (.cells #[.int .i64 ac, .slice ja J.length jc, .int .i64 (r + 1), .slice none 0 0, .bool false] 33 (0, 0)) by rw [← hw4]; exact row_set (row_set (row_set HA3.out 1 _) 2 _) 3 _)
    have HZ4 := Lib.hid (hon.at HZ3.out (by omega))
    have HB4 := Lib.hid (seen HB3.out (Nat.le_refl _) hon)
    have HO4 := Lib.hid (ownV_past HO3.out hon (by omega))
    have HW := Lib.hid hw4
    clear g0 hw4 hon HA3 HZ3 HB3 HO3
    go_upto_region 7 with fail
    rw [HW.out]
    clear HW c0 c1 c2 c3 c4 g1 g2 g3
    have hra := HA4.out
    have hrz := HZ4.out
    go_wp2_with (first
          | (refine wpList_load_row rfl 33 _ rfl w.heap.size rfl 33 _ (0, 0) _ hra Try.underlying33 rfl (by kernel_rfl) ?_)
          | (refine wpList_store_row rfl 33 _ _ rfl (w.heap.size + 1) _ rfl rfl 33 _ hrz (by kernel_rfl) rfl (cells5 _ _ _ _ _ _ _ _ _) ?_))
    have hon := onlyR w4 (w.heap.size + 1) #[.int .i64 ac, .slice ja J.length jc, .int .i64 (r + 1), .slice none 0 0, .bool false]
    exact proRet rfl rfl rfl (setRow_heap _ _ _ _ _ _ hrz) Try.underlying33 rfl rfl ⟨_, rfl, by rw [HE.out]; exact prO (s := ⟨ac, J, r + 1, [], false⟩) (off_ownV (ownV_past HO4.out hon (by omega)) (seenP HG.out (by omega))) (fun _ _ => RdG.nil hlI _), seen HB4.out (by omega) hon⟩
  · have HR := Lib.hid (PM.rcv_ack (s := ⟨ac, vl, r, ks, false⟩) (a := a) (r := r) (v := xs) HN.out hL)
    rw [HR.out]
    rw [hL] at HQ
    clear hL
    go_enter Try.func14, Try.ntmps14
    go_upto_region 1 with fail
    rw [HW.out]
    clear HW
    go_wp2_with fail
    refine HQ.out.mono ?_
    rintro e w2 ⟨rfl, hb2⟩
    have HB2 := Lib.hid (bnext HB.out hb2)
    have HA2 := Lib.hid (below_blk HA.out hb2)
    have HZ2 := Lib.hid (below_blk HZ.out hb2)
    have HS2 := Lib.hid (show w.heap.size + 2 ≤ w2.heap.size by rw [← HS.out]; exact hb2.size)
    clear HQ hb2 HA HZ HB HS c0 c1 c2 c3 c4
    obtain ⟨c0, c1, c2, c3, c4⟩ := five HA2.out
    have HJ := Lib.hid (rInsert _ ks a w2 (HK.out.below HB2.out).rd (by have := HOK.out.len; show ks.length ≤ _; have h : ks.length ≤ 12 := this; omega))
    rw [insF_srt HOK.out.asc] at HJ
    go_wp2_with fail
    refine HJ.out.mono ?_
    rintro e w3 ⟨v3, rfl, ho3, hb3⟩
    obtain ⟨ja, jc, rfl, _, _⟩ := ho3.rd.shape
    have HB3 := Lib.hid (bnext HB2.out hb3)
    have HA3 := Lib.hid (below_blk HA2.out hb3)
    have HZ3 := Lib.hid (below_blk HZ2.out hb3)
    have HO3 := Lib.hid (ho3.mono HS2.out)
    have HS3 := Lib.hid (Nat.le_trans HS2.out hb3.size)
    have hjl : (PM.ins a ks).length ≤ 13 := Nat.le_trans (PM.ins_len a ks) (by have h : ks.length ≤ 12 := HOK.out.len; omega)
    obtain ⟨J, HE⟩ : ∃ J, Hid (PM.ins a ks = J) := ⟨_, Lib.hid rfl⟩
    rw [HE.out] at HO3 hjl ⊢
    clear HJ ho3 hb3 HA2 HZ2 HB2 HS2 c0 c1 c2 c3 c4
    obtain ⟨c0, c1, c2, c3, c4⟩ := five HA3.out
    have g0 := unfz HA3.out
    have g3 := g0 3
    have g4 := g0 4
    obtain ⟨w4, hw4⟩ : ∃ w4, (w3.setCell ⟨w.heap.size, 3, none⟩ (.slice ja J.length jc)).setCell ⟨w.heap.size, 4, none⟩ (.bool (decide (ac < 2 * (J.length : Int)))) = w4 := ⟨_, rfl⟩
    have hon : Only w.heap.size w3 w4 := by rw [← hw4]; exact (Only.set 3 _).trans (Only.set 4 _)
    have HA4 := Lib.hid (show w4.heap[w.heap.size]? = some (.cells #[.int .i64 ac, .slice ua vl.length uc, .int .i64 r, .slice ja J.length jc, .bool (decide (ac < 2 * (J.length : Int)))] 33 (0, 0)) by rw [← hw4]; exact row_set (row_set HA3.out 3 _) 4 _)
    have HZ4 := Lib.hid (hon.at HZ3.out (by omega))
    have HB4 := Lib.hid (seen HB3.out (Nat.le_refl _) hon)
    have HO4 := Lib.hid (ownG_past HO3.out hon (by omega))
    have HW := Lib.hid hw4
    clear g0 hw4 hon HA3 HZ3 HB3 HO3
    go_upto_region 10 with fail
    rw [HW.out]
    clear HW c0 c1 c2 c3 c4 g3 g4
    have hra := HA4.out
    have hrz := HZ4.out
    go_wp2_with (first
          | (refine wpList_load_row rfl 33 _ rfl w.heap.size rfl 33 _ (0, 0) _ hra Try.underlying33 rfl (by kernel_rfl) ?_)
          | (refine wpList_store_row rfl 33 _ _ rfl (w.heap.size + 1) _ rfl rfl 33 _ hrz (by kernel_rfl) rfl (cells5 _ _ _ _ _ _ _ _ _) ?_))
    have hon := onlyR w4 (w.heap.size + 1) #[.int .i64 ac, .slice ua vl.length uc, .int .i64 r, .slice ja J.length jc, .bool (decide (ac < 2 * (J.length : Int)))]
    have hb5 := seen HB4.out (by omega) hon
    exact proRet rfl rfl rfl (setRow_heap _ _ _ _ _ _ hrz) Try.underlying33 rfl rfl ⟨_, rfl, by rw [HE.out]; exact prO (s := ⟨ac, vl, r, J, _⟩) (HU.out.below hb5) (off_own (ownG_past HO4.out hon (by omega)) (seenP HG.out (by omega))), hb5⟩

set_option maxRecDepth 100000 in
set_option maxHeartbeats 4000000 in
theorem rProp (G : Nat → Prop) (p v : Value) (s : PM.Ps) (xs : List Ent) (w : World) (hG : ∀ k, G k → k < w.heap.size) (hp : PrO G w p s) (hv : Off G w fun w => VX.RdV w v xs) (ok : PM.Ok s) (hx : VM.Val 0 xs) (hl : s.val.length ≤ 20000) (hlx : xs.length ≤ 20000) (hr0 : 0 ≤ s.round) (hr1 : s.round ≤ 1000000) :
    Calls Try.prog 12 #[p, v] w fun e w' => ∃ p', e = .returned p' ∧ PrO G w' p' (PM.prp s xs) ∧ Below w.heap.size w w' := by
  obtain ⟨ac, vl, rd, ks, dc⟩ := s
  obtain ⟨ua, uc, ka, kc, rfl, hu, hk⟩ := hp.parts
  obtain ⟨va, vc, rfl, _, _⟩ := hv.rd.shape
  simp only at *
  obtain ⟨w0, hw0, hA, hb0, hs0⟩ := oneP 33 w (.int .i64 ac) (.slice ua vl.length uc) (.int .i64 rd) (.slice ka ks.length kc) (.bool dc)
  obtain ⟨w1, hw1, hZ, hb1, hs1⟩ := oneP 33 w0 (.int .i64 0) (.slice none 0 0) (.int .i64 0) (.slice none 0 0) (.bool false)
  rw [hs0] at hZ
  rw [← hw0] at hw1
  have HW := Lib.hid hw1
  have HA := Lib.hid (below_blk hA hb1)
  have HZ := Lib.hid hZ
  have HB := Lib.hid (bnext hb0 hb1)
  have HS := Lib.hid (show w1.heap.size = w.heap.size + 2 by rw [hs1, hs0])
  have HP := Lib.hid hp
  have HU := Lib.hid hu
  have HK := Lib.hid hk
  have HV := Lib.hid hv
  have HG := Lib.hid hG
  have HOK := Lib.hid ok
  have HX := Lib.hid hx
  have HL1 := Lib.hid hl
  have HL2 := Lib.hid hlx
  clear hw0 hA hb0 hs0 hs1 hw1 hZ hb1 hu hk hv hp hG ok hx hl hlx
  cases dc
  · rw [show PM.prp ⟨ac, vl, rd, ks, false⟩ xs = ⟨ac, vl, rd, ks, false⟩ from rfl]
    obtain ⟨c0, c1, c2, c3, c4⟩ := five HA.out
    have hra := HA.out
    have hrz := HZ.out
    go_enter Try.func12, Try.ntmps12
    go_upto_region 1 with fail
    rw [HW.out]
    clear HW
    go_wp2_with (first
          | (refine wpList_load_row rfl 33 _ rfl w.heap.size rfl 33 _ (0, 0) _ hra Try.underlying33 rfl (by kernel_rfl) ?_)
          | (refine wpList_store_row rfl 33 _ _ rfl (w.heap.size + 1) _ rfl rfl 33 _ hrz (by kernel_rfl) rfl (cells5 _ _ _ _ _ _ _ _ _) ?_))
    refine proRet1 rfl rfl (setRow_heap _ _ _ _ _ _ hrz) Try.underlying33 rfl rfl ⟨_, rfl, HP.out.below ?_, ?_⟩ <;> exact seen HB.out (by omega) (onlyR _ _ _)
  · have HJ := Lib.hid (VX.rJoin _ _ vl xs w1 (HU.out.below HB.out).rd (HV.out.below HB.out).rd HX.out (by have := HL1.out; omega) (by have := HL2.out; omega))
    rw [VM.rj_jn HOK.out.val HX.out] at HJ
    obtain ⟨J, HE⟩ : ∃ J, Hid (VM.jn vl xs = J) := ⟨_, Lib.hid rfl⟩
    rw [HE.out] at HJ
    rw [show PM.prp ⟨ac, vl, rd, ks, true⟩ xs = ⟨ac, VM.jn vl xs, rd + 1, [], false⟩ from rfl, HE.out]
    have hs2 : w.heap.size + 2 ≤ w1.heap.size := by rw [HS.out]; exact Nat.le_refl _
    have HS2 := Lib.hid hs2
    clear hs2 HS
    obtain ⟨c0, c1, c2, c3, c4⟩ := five HA.out
    go_enter Try.func12, Try.ntmps12
    go_upto_region 1 with fail
    rw [HW.out]
    clear HW
    go_wp2_with fail
    refine HJ.out.mono ?_
    rintro e w3 ⟨v3, rfl, ho3, hb3⟩
    obtain ⟨ja, jc, rfl, _, _⟩ := ho3.rd.shape
    have HB3 := Lib.hid (bnext HB.out hb3)
    have HA3 := Lib.hid (below_blk HA.out hb3)
    have HZ3 := Lib.hid (below_blk HZ.out hb3)
    have HO3 := Lib.hid (ho3.mono HS2.out)
    have HS3 := Lib.hid (Nat.le_trans HS2.out hb3.size)
    clear HJ ho3 hb3 HA HZ HB HS2 c0 c1 c2 c3 c4
    obtain ⟨c0, c1, c2, c3, c4⟩ := five HA3.out
    have g0 := unfz HA3.out
    have g1 := g0 1
    have g2 := g0 2
    have g3 := g0 3
    have g4 := g0 4
    obtain ⟨w4, hw4⟩ : ∃ w4, (((w3.setCell ⟨w.heap.size, 1, none⟩ (.slice ja J.length jc)).setCell ⟨w.heap.size, 2, none⟩ (.int .i64 (rd + 1))).setCell ⟨w.heap.size, 3, none⟩ (.slice none 0 0)).setCell ⟨w.heap.size, 4, none⟩ (.bool false) = w4 := ⟨_, rfl⟩
    have hon : Only w.heap.size w3 w4 := by rw [← hw4]; exact (((Only.set 1 _).trans (Only.set 2 _)).trans (Only.set 3 _)).trans (Only.set 4 _)
    have HA4 := Lib.hid (show w4.heap[w.heap.size]? = some (.cells #[.int .i64 ac, .slice ja J.length jc, .int .i64 (rd + 1), .slice none 0 0, .bool false] 33 (0, 0)) by rw [← hw4]; exact row_set (row_set (row_set (row_set HA3.out 1 _) 2 _) 3 _) 4 _)
    have HZ4 := Lib.hid (hon.at HZ3.out (by omega))
    have HB4 := Lib.hid (seen HB3.out (Nat.le_refl _) hon)
    have HO4 := Lib.hid (ownV_past HO3.out hon (by omega))
    have HW := Lib.hid hw4
    clear g0 hw4 hon HA3 HZ3 HB3 HO3
    go_upto_region 7 with fail
    rw [HW.out]
    clear HW c0 c1 c2 c3 c4 g1 g2 g3 g4
    have hra := HA4.out
    have hrz := HZ4.out
    go_wp2_with (first
          | (refine wpList_load_row rfl 33 _ rfl w.heap.size rfl 33 _ (0, 0) _ hra Try.underlying33 rfl (by kernel_rfl) ?_)
          | (refine wpList_store_row rfl 33 _ _ rfl (w.heap.size + 1) _ rfl rfl 33 _ hrz (by kernel_rfl) rfl (cells5 _ _ _ _ _ _ _ _ _) ?_))
    have hon := onlyR w4 (w.heap.size + 1) #[.int .i64 ac, .slice ja J.length jc, .int .i64 (rd + 1), .slice none 0 0, .bool false]
    exact proRet1 rfl rfl (setRow_heap _ _ _ _ _ _ hrz) Try.underlying33 rfl rfl ⟨_, rfl, prO (s := ⟨ac, J, rd + 1, [], false⟩) (off_ownV (ownV_past HO4.out hon (by omega)) (seenP HG.out (by omega))) (fun _ _ => RdG.nil hlI _), seen HB4.out (by omega) hon⟩
end Go.Proofs.Ytejedodicihecaa
