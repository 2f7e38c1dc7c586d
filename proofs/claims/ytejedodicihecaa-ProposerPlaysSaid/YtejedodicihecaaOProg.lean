/-
  The calls of package proposer's New, Receive and Propose, and of their helpers: what they make of a proposer, in memory of the call's own; the structure of contracts PT. Conditions: what comes in reads; valid vectors, a state that the functions return.
-/
import Derived.Test.YtejedodicihecaaOWith
import Derived.Test.YtejedodicihecaaORef
namespace Go.Proofs.Ytejedodicihecaa
open Go.RowKit
open VM (Ent)

/-- A proposer by value whose lists are the call's own. -/
def OwnP (B : Nat) (w : World) (v : Value) (s : PM.Ps) : Prop := ∃ ua uc ka kc, v = .agg #[.int .i64 s.acc, .slice ua s.val.length uc, .int .i64 s.round, .slice ka s.acks.length kc, .bool s.dec] ∧
  VX.OwnV B w (.slice ua s.val.length uc) s.val ∧ OwnI B w (.slice ka s.acks.length kc) s.acks
theorem OwnP.pro {G : Nat → Prop} {B : Nat} {w : World} {v : Value} {s : PM.Ps} (h : OwnP B w v s) (hG : ∀ k, G k → k < B) : PrO G w v s := by
  obtain ⟨ua, uc, ka, kc, rfl, h1, h2⟩ := h
  exact prO (off_ownV h1 hG) (off_own h2 hG)
theorem OwnP.mono {B B' : Nat} {w : World} {v : Value} {s : PM.Ps} (h : OwnP B w v s) (hb : B' ≤ B) : OwnP B' w v s := by
  obtain ⟨ua, uc, ka, kc, e, h1, h2⟩ := h
  exact ⟨ua, uc, ka, kc, e, h1.mono hb, h2.mono hb⟩
theorem OwnP.past {B g : Nat} {w w' : World} {v : Value} {s : PM.Ps} (h : OwnP B w v s) (ho : Only g w w') (hg : g < B) : OwnP B w' v s := by
  obtain ⟨ua, uc, ka, kc, e, h1, h2⟩ := h
  exact ⟨ua, uc, ka, kc, e, ownV_past h1 ho hg, ownG_past h2 ho hg⟩
theorem zeroP : (Try.prog.info? 31).map (fun i => (i.zero, i.size, i.bytes)) = some (some (.agg #[.int .i64 0, .slice none 0 0, .int .i64 0, .slice none 0 0, .bool false]), 5, 72) := by kernel_rfl

set_option maxRecDepth 100000 in
set_option maxHeartbeats 4000000 in
theorem pClone (p : Value) (s : PM.Ps) (w : World) (hp : PrV w p s) (h1 : s.val.length ≤ 1000000) (h2 : s.acks.length ≤ 1000000) :
    Calls Try.prog 19 #[p] w fun e w' => ∃ p', e = .returned p' ∧ OwnP w.heap.size w' p' s ∧ Below w.heap.size w w' := by
  obtain ⟨ac, vl, rd, ks, dc⟩ := s
  obtain ⟨ua, uc, ka, kc, rfl, hu, hk⟩ := hp.shape
  simp only at *
  obtain ⟨w0, hw0, hA, hb0, hs0⟩ := oneP 31 w (.int .i64 ac) (.slice ua vl.length uc) (.int .i64 rd) (.slice ka ks.length kc) (.bool dc)
  obtain ⟨w1, hw1, hZ, hb1, hs1⟩ := oneP 31 w0 (.int .i64 0) (.slice none 0 0) (.int .i64 0) (.slice none 0 0) (.bool false)
  rw [hs0] at hZ
  rw [← hw0] at hw1
  have HW := Lib.hid hw1
  have HA := Lib.hid (below_blk hA hb1)
  have HZ := Lib.hid hZ
  have HB := Lib.hid (bnext hb0 hb1)
  have HS := Lib.hid (show w1.heap.size = w.heap.size + 2 by rw [hs1, hs0])
  have HU := Lib.hid hu
  have HK := Lib.hid hk
  have HL1 := Lib.hid h1
  have HL2 := Lib.hid h2
  have HC := Lib.hid (oCloneV _ vl w1 (HU.out.below HB.out) (by have := HL1.out; omega))
  clear hw0 hA hb0 hs0 hs1 hw1 hZ hb1 hu hk hp h1 h2
  obtain ⟨c0, c1, c2, c3, c4⟩ := five HA.out
  go_enter Try.func19, Try.ntmps19
  go_upto_region 1 with fail
  rw [HW.out]
  clear HW
  go_wp2_with fail
  refine HC.out.mono ?_
  rintro e w2 ⟨v2, rfl, ho2, hb2⟩
  obtain ⟨ja, jc, rfl, _, _⟩ := ho2.rd.shape
  have HB2 := Lib.hid (bnext HB.out hb2)
  have HA2 := Lib.hid (below_blk HA.out hb2)
  have HZ2 := Lib.hid (below_blk HZ.out hb2)
  have HS2 := Lib.hid (show w.heap.size + 2 ≤ w2.heap.size by rw [← HS.out]; exact hb2.size)
  have HO2 := Lib.hid (ho2.mono (Nat.le_of_eq HS.out.symm))
  clear HC ho2 hb2 HA HZ HB HS c0 c1 c2 c3 c4
  obtain ⟨c0, c1, c2, c3, c4⟩ := five HA2.out
  have g1 := unfz HA2.out 1
  obtain ⟨w3, hw3⟩ : ∃ w3, w2.setCell ⟨w.heap.size, 1, none⟩ (.slice ja vl.length jc) = w3 := ⟨_, rfl⟩
  have hon : Only w.heap.size w2 w3 := by rw [← hw3]; exact Only.set 1 _
  have HA3 := Lib.hid (show w3.heap[w.heap.size]? = some (.cells #[.int .i64 ac, .slice ja vl.length jc, .int .i64 rd, .slice ka ks.length kc, .bool dc] 31 (0, 0)) by rw [← hw3]; exact row_set HA2.out 1 _)
  have HZ3 := Lib.hid (hon.at HZ2.out (by omega))
  have HB3 := Lib.hid (seen HB2.out (Nat.le_refl _) hon)
  have HO3 := Lib.hid (ownV_past HO2.out hon (by omega))
  have HS3 := Lib.hid (Nat.le_trans HS2.out hon.size)
  have HW := Lib.hid hw3
  have HC := Lib.hid (oCloneI _ ks w3 (HK.out.below HB3.out) (by have := HL2.out; omega))
  clear hw3 hon HA2 HZ2 HB2 HO2 HS2
  go_upto_region 2 with fail
  rw [HW.out]
  clear HW c0 c1 c2 c3 c4 g1
  obtain ⟨c0, c1, c2, c3, c4⟩ := five HA3.out
  go_wp2_with fail
  refine HC.out.mono ?_
  rintro e w4 ⟨v4, rfl, ho4, hb4⟩
  obtain ⟨ia, ic, rfl, _, _⟩ := ho4.rd.shape
  have HB4 := Lib.hid (bnext HB3.out hb4)
  have HA4 := Lib.hid (below_blk HA3.out hb4)
  have HZ4 := Lib.hid (below_blk HZ3.out hb4)
  have HS4 := Lib.hid (Nat.le_trans HS3.out hb4.size)
  have HP4 := Lib.hid (HO3.out.below hb4)
  have HO4 := Lib.hid (ho4.mono HS3.out)
  clear HC ho4 hb4 HA3 HZ3 HB3 HS3 HO3 c0 c1 c2 c3 c4
  obtain ⟨c0, c1, c2, c3, c4⟩ := five HA4.out
  have g3 := unfz HA4.out 3
  obtain ⟨w5, hw5⟩ : ∃ w5, w4.setCell ⟨w.heap.size, 3, none⟩ (.slice ia ks.length ic) = w5 := ⟨_, rfl⟩
  have hon : Only w.heap.size w4 w5 := by rw [← hw5]; exact Only.set 3 _
  have HA5 := Lib.hid (show w5.heap[w.heap.size]? = some (.cells #[.int .i64 ac, .slice ja vl.length jc, .int .i64 rd, .slice ia ks.length ic, .bool dc] 31 (0, 0)) by rw [← hw5]; exact row_set HA4.out 3 _)
  have HZ5 := Lib.hid (hon.at HZ4.out (by omega))
  have HB5 := Lib.hid (seen HB4.out (Nat.le_refl _) hon)
  have HP5 := Lib.hid (ownV_past HP4.out hon (by omega))
  have HO5 := Lib.hid (ownG_past HO4.out hon (by omega))
  have HW := Lib.hid hw5
  clear hw5 hon HA4 HZ4 HB4 HO4 HP4 HS4
  go_upto_region 3 with fail
  rw [HW.out]
  clear HW c0 c1 c2 c3 c4 g3
  have hra := HA5.out
  have hrz := HZ5.out
  go_wp2_with (first
        | (refine wpList_load_row rfl 31 _ rfl w.heap.size rfl 31 _ (0, 0) _ hra Try.underlying31 rfl (by kernel_rfl) ?_)
        | (refine wpList_store_row rfl 31 _ _ rfl (w.heap.size + 1) _ rfl rfl 31 _ hrz (by kernel_rfl) rfl (cells5 _ _ _ _ _ _ _ _ _) ?_))
  have hon := onlyR w5 (w.heap.size + 1) #[.int .i64 ac, .slice ja vl.length jc, .int .i64 rd, .slice ia ks.length ic, .bool dc]
  exact proRet1 rfl rfl (setRow_heap _ _ _ _ _ _ hrz) Try.underlying31 rfl rfl ⟨_, rfl, ⟨_, _, _, _, rfl, (ownV_past HP5.out hon (by omega)).mono (by omega), (ownG_past HO5.out hon (by omega)).mono (by omega)⟩, seen HB5.out (by omega) hon⟩

set_option maxRecDepth 100000 in
set_option maxHeartbeats 4000000 in
theorem pAck (p : Value) (s : PM.Ps) (a : Int) (w : World) (hp : PrV w p s) (h1 : s.val.length ≤ 1000000) (h2 : s.acks.length ≤ 1000000) (hs : s.acks.Pairwise (· < ·)) :
    Calls Try.prog 23 #[p, .int .i64 a] w fun e w' => ∃ p', e = .returned p' ∧ OwnP w.heap.size w' p' { s with acks := PM.ins a s.acks, dec := decide (s.acc < 2 * ((PM.ins a s.acks).length : Int)) } ∧ Below w.heap.size w w' := by
  obtain ⟨ac, vl, rd, ks, dc⟩ := s
  obtain ⟨ua, uc, ka, kc, rfl, hu, hk⟩ := hp.shape
  simp only at *
  obtain ⟨w0, hw0, hA, hb0, hs0⟩ := oneP 31 w (.int .i64 ac) (.slice ua vl.length uc) (.int .i64 rd) (.slice ka ks.length kc) (.bool dc)
  obtain ⟨w1, hw1, hZ, hb1, hs1⟩ := oneP 31 w0 (.int .i64 0) (.slice none 0 0) (.int .i64 0) (.slice none 0 0) (.bool false)
  rw [hs0] at hZ
  rw [← hw0] at hw1
  have HW := Lib.hid hw1
  have HA := Lib.hid (below_blk hA hb1)
  have HZ := Lib.hid hZ
  have HB := Lib.hid (bnext hb0 hb1)
  have HS := Lib.hid (show w1.heap.size = w.heap.size + 2 by rw [hs1, hs0])
  have HU := Lib.hid hu
  have HK := Lib.hid hk
  have HL1 := Lib.hid h1
  have HL2 := Lib.hid h2
  have HAS := Lib.hid hs
  have HC := Lib.hid (oCloneV _ vl w1 (HU.out.below HB.out) (by have := HL1.out; omega))
  have hjl : (PM.ins a ks).length ≤ 1000001 := Nat.le_trans (PM.ins_len a ks) (by have := HL2.out; omega)
  obtain ⟨J, HE⟩ : ∃ J, Hid (PM.ins a ks = J) := ⟨_, Lib.hid rfl⟩
  rw [HE.out] at hjl ⊢
  clear hw0 hA hb0 hs0 hs1 hw1 hZ hb1 hu hk hp h1 h2 hs
  obtain ⟨c0, c1, c2, c3, c4⟩ := five HA.out
  go_enter Try.func23, Try.ntmps23
  go_upto_region 1 with fail
  rw [HW.out]
  clear HW
  go_wp2_with fail
  refine HC.out.mono ?_
  rintro e w2 ⟨v2, rfl, ho2, hb2⟩
  obtain ⟨ja, jc, rfl, _, _⟩ := ho2.rd.shape
  have HB2 := Lib.hid (bnext HB.out hb2)
  have HA2 := Lib.hid (below_blk HA.out hb2)
  have HZ2 := Lib.hid (below_blk HZ.out hb2)
  have HS2 := Lib.hid (show w.heap.size + 2 ≤ w2.heap.size by rw [← HS.out]; exact hb2.size)
  have HO2 := Lib.hid (ho2.mono (Nat.le_of_eq HS.out.symm))
  clear HC ho2 hb2 HA HZ HB HS c0 c1 c2 c3 c4
  obtain ⟨c0, c1, c2, c3, c4⟩ := five HA2.out
  have g1 := unfz HA2.out 1
  obtain ⟨w3, hw3⟩ : ∃ w3, w2.setCell ⟨w.heap.size, 1, none⟩ (.slice ja vl.length jc) = w3 := ⟨_, rfl⟩
  have hon : Only w.heap.size w2 w3 := by rw [← hw3]; exact Only.set 1 _
  have HA3 := Lib.hid (show w3.heap[w.heap.size]? = some (.cells #[.int .i64 ac, .slice ja vl.length jc, .int .i64 rd, .slice ka ks.length kc, .bool dc] 31 (0, 0)) by rw [← hw3]; exact row_set HA2.out 1 _)
  have HZ3 := Lib.hid (hon.at HZ2.out (by omega))
  have HB3 := Lib.hid (seen HB2.out (Nat.le_refl _) hon)
  have HO3 := Lib.hid (ownV_past HO2.out hon (by omega))
  have HS3 := Lib.hid (Nat.le_trans HS2.out hon.size)
  have HW := Lib.hid hw3
  have HC := Lib.hid (oWith _ ks a w3 (HK.out.below HB3.out) HAS.out HL2.out)
  rw [HE.out] at HC
  clear hw3 hon HA2 HZ2 HB2 HO2 HS2
  go_upto_region 2 with fail
  rw [HW.out]
  clear HW c0 c1 c2 c3 c4 g1
  obtain ⟨c0, c1, c2, c3, c4⟩ := five HA3.out
  go_wp2_with fail
  refine HC.out.mono ?_
  rintro e w4 ⟨v4, rfl, ho4, hb4⟩
  obtain ⟨ia, ic, rfl, _, _⟩ := ho4.rd.shape
  have HB4 := Lib.hid (bnext HB3.out hb4)
  have HA4 := Lib.hid (below_blk HA3.out hb4)
  have HZ4 := Lib.hid (below_blk HZ3.out hb4)
  have HS4 := Lib.hid (Nat.le_trans HS3.out hb4.size)
  have HP4 := Lib.hid (HO3.out.below hb4)
  have HO4 := Lib.hid (ho4.mono HS3.out)
  clear HC ho4 hb4 HA3 HZ3 HB3 HS3 HO3 c0 c1 c2 c3 c4
  obtain ⟨c0, c1, c2, c3, c4⟩ := five HA4.out
  have g3 := unfz HA4.out 3
  have g4 := unfz HA4.out 4
  obtain ⟨w5, hw5⟩ : ∃ w5, (w4.setCell ⟨w.heap.size, 3, none⟩ (.slice ia J.length ic)).setCell ⟨w.heap.size, 4, none⟩ (.bool (decide (ac < 2 * (J.length : Int)))) = w5 := ⟨_, rfl⟩
  have hon : Only w.heap.size w4 w5 := by rw [← hw5]; exact (Only.set 3 _).trans (Only.set 4 _)
  have HA5 := Lib.hid (show w5.heap[w.heap.size]? = some (.cells #[.int .i64 ac, .slice ja vl.length jc, .int .i64 rd, .slice ia J.length ic, .bool (decide (ac < 2 * (J.length : Int)))] 31 (0, 0)) by rw [← hw5]; exact row_set (row_set HA4.out 3 _) 4 _)
  have HZ5 := Lib.hid (hon.at HZ4.out (by omega))
  have HB5 := Lib.hid (seen HB4.out (Nat.le_refl _) hon)
  have HP5 := Lib.hid (ownV_past HP4.out hon (by omega))
  have HO5 := Lib.hid (ownG_past HO4.out hon (by omega))
  have HW := Lib.hid hw5
  clear hw5 hon HA4 HZ4 HB4 HO4 HP4 HS4
  go_upto_region 4 with fail
  rw [HW.out]
  clear HW c0 c1 c2 c3 c4 g3 g4
  have hra := HA5.out
  have hrz := HZ5.out
  go_wp2_with (first
        | (refine wpList_load_row rfl 31 _ rfl w.heap.size rfl 31 _ (0, 0) _ hra Try.underlying31 rfl (by kernel_rfl) ?_)
        | (refine wpList_store_row rfl 31 _ _ rfl (w.heap.size + 1) _ rfl rfl 31 _ hrz (by kernel_rfl) rfl (cells5 _ _ _ _ _ _ _ _ _) ?_))
  have hon := onlyR w5 (w.heap.size + 1) #[.int .i64 ac, .slice ja vl.length jc, .int .i64 rd, .slice ia J.length ic, .bool (decide (ac < 2 * (J.length : Int)))]
  exact proRet1 rfl rfl (setRow_heap _ _ _ _ _ _ hrz) Try.underlying31 rfl rfl ⟨_, rfl, ⟨_, _, _, _, rfl, (ownV_past HP5.out hon (by omega)).mono (by omega), (ownG_past HO5.out hon (by omega)).mono (by omega)⟩, seen HB5.out (by omega) hon⟩

set_option maxRecDepth 100000 in
set_option maxHeartbeats 4000000 in
theorem pAdvance (p v : Value) (s : PM.Ps) (xs : List Ent) (w : World) (hp : PrV w p s) (hv : VX.RdV w v xs) (h1 : s.val.length + xs.length ≤ 1000000) (h2 : 0 ≤ s.round) (h3 : s.round ≤ 1000000) :
    Calls Try.prog 20 #[p, v] w fun e w' => ∃ p', e = .returned p' ∧ OwnP w.heap.size w' p' ⟨s.acc, VM.jn s.val xs, s.round + 1, [], false⟩ ∧ Below w.heap.size w w' := by
  obtain ⟨ac, vl, rd, ks, dc⟩ := s
  obtain ⟨ua, uc, ka, kc, rfl, hu, hk⟩ := hp.shape
  obtain ⟨va, vc, rfl, _, _⟩ := hv.shape
  simp only at *
  obtain ⟨w0, hw0, hA, hb0, hs0⟩ := oneP 31 w (.int .i64 ac) (.slice ua vl.length uc) (.int .i64 rd) (.slice ka ks.length kc) (.bool dc)
  obtain ⟨w1, hw1, hZ, hb1, hs1⟩ := oneP 31 w0 (.int .i64 0) (.slice none 0 0) (.int .i64 0) (.slice none 0 0) (.bool false)
  rw [hs0] at hZ
  rw [← hw0] at hw1
  have HW := Lib.hid hw1
  have HA := Lib.hid (below_blk hA hb1)
  have HZ := Lib.hid hZ
  have HB := Lib.hid (bnext hb0 hb1)
  have HS := Lib.hid (show w1.heap.size = w.heap.size + 2 by rw [hs1, hs0])
  have HC := Lib.hid (fun w' (h : Below w1.heap.size w1 w') => VX.wJoin _ _ vl xs w' ((hu.below HB.out).below h) ((hv.below HB.out).below h) h1)
  obtain ⟨J, HE⟩ : ∃ J, Hid (VM.jn vl xs = J) := ⟨_, Lib.hid rfl⟩
  rw [HE.out] at HC ⊢
  clear hw0 hA hb0 hs0 hs1 hw1 hZ hb1 hu hk hp hv h1
  go_enter Try.func20, Try.ntmps20
  go_upto_region 1 with fail
  rw [HW.out]
  clear HW
  refine wp_region_held_drew (S := fun w' => w'.heap[w.heap.size]? = some (.cells #[.int .i64 ac, .slice ua vl.length uc, .int .i64 rd, .slice ka ks.length kc, .bool dc] 31 (0, 0))) (by kernel_rfl) HA.out (fun _ => ?_)
  have ha : Below w1.heap.size w1 w1.drew := (Below.refl _ _).drew
  generalize w1.drew = wa at ha ⊢
  have hS0 := below_blk HA.out ha
  refine takeH (i := 0) (v := ?_) rfl (by kernel_rfl) (by kernel_rfl) (by kernel_rfl) (fun _ _ _ h => h) (Or.inl ⟨by rfl, ?_⟩) (by assumption) ?_
  rotate_left
  · (intro w hSw; (try dsimp only at hSw); go_simp; first | done | with_reducible rfl)
  (try simp only [Act.put, List.setIfInBounds_toArray, List.set_cons_zero, List.set_cons_succ])
  refine takeH (i := 2) (v := ?_) rfl (by kernel_rfl) (by kernel_rfl) (by kernel_rfl) (fun _ _ _ h => h) (Or.inl ⟨by rfl, ?_⟩) (by assumption) ?_
  rotate_left
  · (intro w hSw; (try dsimp only at hSw); go_simp; first | done | with_reducible rfl)
  (try simp only [Act.put, List.setIfInBounds_toArray, List.set_cons_zero, List.set_cons_succ])
  refine takeH (i := 4) (v := ?_) rfl (by kernel_rfl) (by kernel_rfl) (by kernel_rfl) (fun _ _ _ h => h) (Or.inl ⟨by rfl, ?_⟩) (by assumption) ?_
  rotate_left
  · (intro w hSw; (try dsimp only at hSw); go_simp; first | done | with_reducible rfl)
  (try simp only [Act.put, List.setIfInBounds_toArray, List.set_cons_zero, List.set_cons_succ])
  refine takeH (i := 6) (v := ?_) rfl (by kernel_rfl) (by kernel_rfl) (by kernel_rfl) (fun _ _ _ h => h) (Or.inl ⟨by rfl, ?_⟩) (by assumption) ?_
  rotate_left
  · (intro w hSw; (try dsimp only at hSw); go_simp; first | done | with_reducible rfl)
  (try simp only [Act.put, List.setIfInBounds_toArray, List.set_cons_zero, List.set_cons_succ])
  refine takeH (i := 1) (v := ?_) rfl (by kernel_rfl) (by kernel_rfl) (by kernel_rfl) (fun _ _ _ h => h) (Or.inl ⟨by rfl, ?_⟩) (by assumption) ?_
  rotate_left
  · (intro w hSw; (try dsimp only at hSw); obtain ⟨c0, c1, c2, c3, c4⟩ := five hSw; go_simp; first | done | with_reducible rfl)
  (try simp only [Act.put, List.setIfInBounds_toArray, List.set_cons_zero, List.set_cons_succ])
  refine takeH (i := 3) (v := ?_) rfl (by kernel_rfl) (by kernel_rfl) (by kernel_rfl) (fun _ _ _ h => h) (Or.inl ⟨by rfl, ?_⟩) (by assumption) ?_
  rotate_left
  · (intro w hSw; (try dsimp only at hSw); obtain ⟨c0, c1, c2, c3, c4⟩ := five hSw; go_simp; first | done | with_reducible rfl)
  (try simp only [Act.put, List.setIfInBounds_toArray, List.set_cons_zero, List.set_cons_succ])
  refine takeH (i := 7) (v := ?_) rfl (by kernel_rfl) (by kernel_rfl) (by kernel_rfl) (fun _ _ _ h => h) (Or.inl ⟨by rfl, ?_⟩) (by assumption) ?_
  rotate_left
  · (intro w hSw; (try dsimp only at hSw); obtain ⟨c0, c1, c2, c3, c4⟩ := five hSw; go_simp; first | done | with_reducible rfl)
  (try simp only [Act.put, List.setIfInBounds_toArray, List.set_cons_zero, List.set_cons_succ])
  refine takeH (i := 8) (v := ?_) rfl (by kernel_rfl) (by kernel_rfl) (by kernel_rfl) (fun _ _ _ h => h) (Or.inl ⟨by rfl, ?_⟩) (by assumption) ?_
  rotate_left
  · (intro w hSw; (try dsimp only at hSw); go_simp; first | done | with_reducible rfl)
  (try simp only [Act.put, List.setIfInBounds_toArray, List.set_cons_zero, List.set_cons_succ])
  refine wpAnyH_ready (rs := [5]) (by kernel_rfl) (by simp) ?_
  refine stepH rfl (fun K hK => ?_) AllReadyH.nil
  go_simp
  refine (HC.out wa ha).mono ?_
  rintro e wb ⟨vj, rfl, ho, hq⟩
  obtain ⟨ja, jc, rfl, _, _⟩ := ho.rd.shape
  have hb := bnext ha hq
  have hS2 := below_blk HA.out hb
  go_wp2_with fail
  refine hK.out _ _ (hS2) (fun _ => ?_)
  clear hK K
  (try simp only [Act.put, List.setIfInBounds_toArray, List.set_cons_zero, List.set_cons_succ])
  refine takeH (i := 9) (v := ?_) rfl (by kernel_rfl) (by kernel_rfl) (by kernel_rfl) (fun _ _ _ h => h) (Or.inl ⟨by rfl, ?_⟩) (by assumption) ?_
  rotate_left
  · (intro w hSw; (try dsimp only at hSw); go_simp; first | done | with_reducible rfl)
  (try simp only [Act.put, List.setIfInBounds_toArray, List.set_cons_zero, List.set_cons_succ])
  have HZ4 := Lib.hid (below_blk HZ.out hb)
  have HB4 := Lib.hid (bnext HB.out hb)
  have HO4 := Lib.hid (ho.mono (show w.heap.size + 2 ≤ wa.heap.size by rw [← HS.out]; exact ha.size))
  have hrz := HZ4.out
  have hon := onlyR wb (w.heap.size + 1) #[.int .i64 ac, .slice ja J.length jc, .int .i64 (rd + 1), .slice none 0 0, .bool false]
  have hS3 := hon.at hS2 (by omega)
  refine wpAnyH_ready (rs := [10]) (by kernel_rfl) (by simp) ?_
  refine stepH rfl (fun K hK => ?_) AllReadyH.nil
  rw [if_pos (by rfl)]
  have hwr : IntKind.i64.wrap (rd + 1) = rd + 1 := IntWalk.i64_in _ (by omega)
  rw [hwr]
  refine wp_store_row 31 _ _ rfl (w.heap.size + 1) #[.int .i64 ac, .slice ja J.length jc, .int .i64 (rd + 1), .slice none 0 0, .bool false] rfl rfl 31 _ hrz (by kernel_rfl) rfl (cells5 _ _ _ _ _ _ _ _ _) ?_
  refine hK.out _ _ hS3 (fun _ => ?_)
  clear hK K
  (try simp only [Act.put])
  refine wpAnyH_done (by kernel_rfl) ?_ _
  go_wp2
  exact proRet1 rfl rfl (setRow_heap _ _ _ _ _ _ hrz) Try.underlying31 rfl rfl ⟨_, rfl, ⟨_, _, _, _, rfl, (ownV_past HO4.out hon (by omega)).mono (by omega), OwnG.nil hlI _ _ _⟩, seen HB4.out (by omega) hon⟩

set_option maxRecDepth 100000 in
set_option maxHeartbeats 4000000 in
theorem pProp (p v : Value) (s : PM.Ps) (xs : List Ent) (w : World) (hp : PrV w p s) (hv : VX.RdV w v xs) (h1 : s.val.length + xs.length ≤ 1000000) (h2 : s.acks.length ≤ 1000000) (h3 : 0 ≤ s.round) (h4 : s.round ≤ 1000000) :
    Calls Try.prog 11 #[p, v] w fun e w' => ∃ p', e = .returned p' ∧ OwnP w.heap.size w' p' (PM.prp s xs) ∧ Below w.heap.size w w' := by
  obtain ⟨ac, vl, rd, ks, dc⟩ := s
  obtain ⟨ua, uc, ka, kc, rfl, hu, hk⟩ := hp.shape
  obtain ⟨va, vc, rfl, _, _⟩ := hv.shape
  simp only at *
  obtain ⟨w0, hw0, hA, hb0, hs0⟩ := oneP 31 w (.int .i64 ac) (.slice ua vl.length uc) (.int .i64 rd) (.slice ka ks.length kc) (.bool dc)
  obtain ⟨w1, hw1, hZ, hb1, hs1⟩ := oneP 31 w0 (.int .i64 0) (.slice none 0 0) (.int .i64 0) (.slice none 0 0) (.bool false)
  rw [hs0] at hZ
  rw [← hw0] at hw1
  have HW := Lib.hid hw1
  have HA := Lib.hid (below_blk hA hb1)
  have HZ := Lib.hid hZ
  have HB := Lib.hid (bnext hb0 hb1)
  have HS := Lib.hid (show w1.heap.size = w.heap.size + 2 by rw [hs1, hs0])
  have HP := Lib.hid (hp.below HB.out)
  have HU := Lib.hid (hu.below HB.out)
  have HV := Lib.hid (hv.below HB.out)
  have HL1 := Lib.hid h1
  have HL2 := Lib.hid h2
  clear hw0 hA hb0 hs0 hs1 hw1 hZ hb1 hu hk hp hv h1 h2
  obtain ⟨c0, c1, c2, c3, c4⟩ := five HA.out
  cases dc
  · rw [show PM.prp ⟨ac, vl, rd, ks, false⟩ xs = ⟨ac, vl, rd, ks, false⟩ from rfl]
    have hra := HA.out
    have HC := Lib.hid (pClone _ ⟨ac, vl, rd, ks, false⟩ w1 HP.out (by have := HL1.out; show vl.length ≤ _; omega) HL2.out)
    go_enter Try.func11, Try.ntmps11
    go_upto_region 1 with fail
    rw [HW.out]
    clear HW
    go_wp2_with (refine wpList_load_row rfl 31 _ rfl w.heap.size rfl 31 _ (0, 0) _ hra Try.underlying31 rfl (by kernel_rfl) ?_)
    refine HC.out.mono ?_
    rintro e w2 ⟨p2, rfl, ⟨ja, jc, ia, ic, rfl, ho1, ho2⟩, hb2⟩
    have hrz := below_blk HZ.out hb2
    have hb3 := bnext HB.out hb2
    have hs2 := HS.out
    clear HC c0 c1 c2 c3 c4
    simp only at ho1 ho2
    go_wp2_with (refine wpList_store_row rfl 31 _ _ rfl (w.heap.size + 1) _ rfl rfl 31 _ hrz (by kernel_rfl) rfl (cells5 _ _ _ _ _ _ _ _ _) ?_)
    have hon := onlyR w2 (w.heap.size + 1) #[.int .i64 ac, .slice ja vl.length jc, .int .i64 rd, .slice ia ks.length ic, .bool false]
    exact proRet1 rfl rfl (setRow_heap _ _ _ _ _ _ hrz) Try.underlying31 rfl rfl ⟨_, rfl, ⟨_, _, _, _, rfl, (ownV_past ho1 hon (by omega)).mono (by omega), (ownG_past ho2 hon (by omega)).mono (by omega)⟩, seen hb3 (by omega) hon⟩
  · obtain ⟨J, HE⟩ : ∃ J, Hid (VM.jn vl xs = J) := ⟨_, Lib.hid rfl⟩
    rw [show PM.prp ⟨ac, vl, rd, ks, true⟩ xs = ⟨ac, VM.jn vl xs, rd + 1, [], false⟩ from rfl]
    have hra := HA.out
    have HC := Lib.hid (pAdvance _ _ ⟨ac, vl, rd, ks, true⟩ xs w1 HP.out HV.out HL1.out h3 h4)
    simp only at HC
    rw [HE.out] at HC ⊢
    go_enter Try.func11, Try.ntmps11
    go_upto_region 1 with fail
    rw [HW.out]
    clear HW
    go_wp2_with (refine wpList_load_row rfl 31 _ rfl w.heap.size rfl 31 _ (0, 0) _ hra Try.underlying31 rfl (by kernel_rfl) ?_)
    refine HC.out.mono ?_
    rintro e w2 ⟨p2, rfl, ⟨ja, jc, ia, ic, rfl, ho1, ho2⟩, hb2⟩
    have hrz := below_blk HZ.out hb2
    have hb3 := bnext HB.out hb2
    have hs2 := HS.out
    clear HC c0 c1 c2 c3 c4
    simp only at ho1 ho2
    go_wp2_with (refine wpList_store_row rfl 31 _ _ rfl (w.heap.size + 1) _ rfl rfl 31 _ hrz (by kernel_rfl) rfl (cells5 _ _ _ _ _ _ _ _ _) ?_)
    have hon := onlyR w2 (w.heap.size + 1) #[.int .i64 ac, .slice ja J.length jc, .int .i64 (rd + 1), .slice ia 0 ic, .bool false]
    exact proRet1 rfl rfl (setRow_heap _ _ _ _ _ _ hrz) Try.underlying31 rfl rfl ⟨_, rfl, ⟨_, _, _, _, rfl, (ownV_past ho1 hon (by omega)).mono (by omega), (ownG_past ho2 hon (by omega)).mono (by omega)⟩, seen hb3 (by omega) hon⟩

set_option maxRecDepth 100000 in
set_option maxHeartbeats 4000000 in
theorem pRecv (p v : Value) (s : PM.Ps) (a r : Int) (xs : List Ent) (w : World) (hp : PrV w p s) (hv : VX.RdV w v xs) (h1 : s.val.length + xs.length ≤ 1000000) (h2 : s.acks.length ≤ 1000000) (hs : s.acks.Pairwise (· < ·)) (h3 : 0 ≤ s.round) (h4 : s.round ≤ 1000000) (hx : VM.Val 0 s.val) (hy : VM.Val 0 xs) :
    Calls Try.prog 13 #[p, .int .i64 a, .int .i64 r, v] w fun e w' => ∃ p', e = .returned (.tuple #[p', .bool (PM.rcv s a r xs).2]) ∧ OwnP w.heap.size w' p' (PM.rcv s a r xs).1 ∧ Below w.heap.size w w' := by
  obtain ⟨ac, vl, rd, ks, dc⟩ := s
  obtain ⟨ua, uc, ka, kc, rfl, hu, hk⟩ := hp.shape
  obtain ⟨va, vc, rfl, _, _⟩ := hv.shape
  simp only at *
  obtain ⟨w0, hw0, hA, hb0, hs0⟩ := oneP 31 w (.int .i64 ac) (.slice ua vl.length uc) (.int .i64 rd) (.slice ka ks.length kc) (.bool dc)
  obtain ⟨w1, hw1, hZ, hb1, hs1⟩ := oneP 31 w0 (.int .i64 0) (.slice none 0 0) (.int .i64 0) (.slice none 0 0) (.bool false)
  rw [hs0] at hZ
  rw [← hw0] at hw1
  have HW := Lib.hid hw1
  have HA := Lib.hid (below_blk hA hb1)
  have HZ := Lib.hid hZ
  have HB := Lib.hid (bnext hb0 hb1)
  have HS := Lib.hid (show w1.heap.size = w.heap.size + 2 by rw [hs1, hs0])
  have HP := Lib.hid (hp.below HB.out)
  have HU := Lib.hid (hu.below HB.out)
  have HV := Lib.hid (hv.below HB.out)
  have HL1 := Lib.hid h1
  have HL2 := Lib.hid h2
  clear hw0 hA hb0 hs0 hs1 hw1 hZ hb1 hu hk hp hv h1 h2
  obtain ⟨c0, c1, c2, c3, c4⟩ := five HA.out
  have HQ := Lib.hid (VX.wLessEqual _ _ xs vl w1 HV.out HU.out hy hx)
  have HAS := Lib.hid hs
  clear hx hy hs
  cases dc
  case true =>
    clear HQ
    rw [PM.rcv_off (s := ⟨ac, vl, rd, ks, true⟩) (a := a) (r := r) (v := xs) (.inl rfl)]
    have hra := HA.out
    have HC := Lib.hid (pClone _ ⟨ac, vl, rd, ks, true⟩ w1 HP.out (by have := HL1.out; show vl.length ≤ _; omega) HL2.out)
    go_enter Try.func13, Try.ntmps13
    go_upto_region 2 with fail
    rw [HW.out]
    clear HW
    go_wp2_with (refine wpList_load_row rfl 31 _ rfl w.heap.size rfl 31 _ (0, 0) _ hra Try.underlying31 rfl (by kernel_rfl) ?_)
    refine HC.out.mono ?_
    rintro e w2 ⟨p2, rfl, ⟨ja, jc, ia, ic, rfl, ho1, ho2⟩, hb2⟩
    have hrz := below_blk HZ.out hb2
    have hb3 := bnext HB.out hb2
    have hs2 := HS.out
    clear HC c0 c1 c2 c3 c4
    simp only at ho1 ho2
    go_wp2_with (refine wpList_store_row rfl 31 _ _ rfl (w.heap.size + 1) _ rfl rfl 31 _ hrz (by kernel_rfl) rfl (cells5 _ _ _ _ _ _ _ _ _) ?_)
    have hon := onlyR w2 (w.heap.size + 1) #[.int .i64 ac, .slice ja vl.length jc, .int .i64 rd, .slice ia ks.length ic, .bool true]
    exact proRet rfl rfl rfl (setRow_heap _ _ _ _ _ _ hrz) Try.underlying31 rfl rfl ⟨_, rfl, ⟨_, _, _, _, rfl, (ownV_past ho1 hon (by omega)).mono (by omega), (ownG_past ho2 hon (by omega)).mono (by omega)⟩, seen hb3 (by omega) hon⟩
  by_cases q1 : r = rd
  case neg =>
    clear HQ
    rw [PM.rcv_off (s := ⟨ac, vl, rd, ks, false⟩) (a := a) (r := r) (v := xs) (.inr (.inl q1))]
    have hne := bneT q1
    have hra := HA.out
    have HC := Lib.hid (pClone _ ⟨ac, vl, rd, ks, false⟩ w1 HP.out (by have := HL1.out; show vl.length ≤ _; omega) HL2.out)
    go_enter Try.func13, Try.ntmps13
    go_upto_region 2 with fail
    rw [HW.out]
    clear HW
    go_wp2_with (refine wpList_load_row rfl 31 _ rfl w.heap.size rfl 31 _ (0, 0) _ hra Try.underlying31 rfl (by kernel_rfl) ?_)
    refine HC.out.mono ?_
    rintro e w2 ⟨p2, rfl, ⟨ja, jc, ia, ic, rfl, ho1, ho2⟩, hb2⟩
    have hrz := below_blk HZ.out hb2
    have hb3 := bnext HB.out hb2
    have hs2 := HS.out
    clear HC c0 c1 c2 c3 c4
    simp only at ho1 ho2
    go_wp2_with (refine wpList_store_row rfl 31 _ _ rfl (w.heap.size + 1) _ rfl rfl 31 _ hrz (by kernel_rfl) rfl (cells5 _ _ _ _ _ _ _ _ _) ?_)
    have hon := onlyR w2 (w.heap.size + 1) #[.int .i64 ac, .slice ja vl.length jc, .int .i64 rd, .slice ia ks.length ic, .bool false]
    exact proRet rfl rfl rfl (setRow_heap _ _ _ _ _ _ hrz) Try.underlying31 rfl rfl ⟨_, rfl, ⟨_, _, _, _, rfl, (ownV_past ho1 hon (by omega)).mono (by omega), (ownG_past ho2 hon (by omega)).mono (by omega)⟩, seen hb3 (by omega) hon⟩
  subst q1
  have hne := bneF (show r = r from rfl)
  by_cases q2 : a < 0
  · clear HQ
    rw [PM.rcv_off (s := ⟨ac, vl, r, ks, false⟩) (a := a) (r := r) (v := xs) (.inr (.inr (.inl q2)))]
    have hra := HA.out
    have HC := Lib.hid (pClone _ ⟨ac, vl, r, ks, false⟩ w1 HP.out (by have := HL1.out; show vl.length ≤ _; omega) HL2.out)
    go_enter Try.func13, Try.ntmps13
    go_upto_region 2 with fail
    rw [HW.out]
    clear HW
    go_wp2_with (refine wpList_load_row rfl 31 _ rfl w.heap.size rfl 31 _ (0, 0) _ hra Try.underlying31 rfl (by kernel_rfl) ?_)
    refine HC.out.mono ?_
    rintro e w2 ⟨p2, rfl, ⟨ja, jc, ia, ic, rfl, ho1, ho2⟩, hb2⟩
    have hrz := below_blk HZ.out hb2
    have hb3 := bnext HB.out hb2
    have hs2 := HS.out
    clear HC c0 c1 c2 c3 c4
    simp only at ho1 ho2
    go_wp2_with (refine wpList_store_row rfl 31 _ _ rfl (w.heap.size + 1) _ rfl rfl 31 _ hrz (by kernel_rfl) rfl (cells5 _ _ _ _ _ _ _ _ _) ?_)
    have hon := onlyR w2 (w.heap.size + 1) #[.int .i64 ac, .slice ja vl.length jc, .int .i64 r, .slice ia ks.length ic, .bool false]
    exact proRet rfl rfl rfl (setRow_heap _ _ _ _ _ _ hrz) Try.underlying31 rfl rfl ⟨_, rfl, ⟨_, _, _, _, rfl, (ownV_past ho1 hon (by omega)).mono (by omega), (ownG_past ho2 hon (by omega)).mono (by omega)⟩, seen hb3 (by omega) hon⟩
  by_cases q3 : ac ≤ a
  · clear HQ
    have q3' : a ≥ ac := q3
    rw [PM.rcv_off (s := ⟨ac, vl, r, ks, false⟩) (a := a) (r := r) (v := xs) (.inr (.inr (.inr q3)))]
    have hra := HA.out
    have HC := Lib.hid (pClone _ ⟨ac, vl, r, ks, false⟩ w1 HP.out (by have := HL1.out; show vl.length ≤ _; omega) HL2.out)
    go_enter Try.func13, Try.ntmps13
    go_upto_region 2 with fail
    rw [HW.out]
    clear HW
    go_wp2_with (refine wpList_load_row rfl 31 _ rfl w.heap.size rfl 31 _ (0, 0) _ hra Try.underlying31 rfl (by kernel_rfl) ?_)
    refine HC.out.mono ?_
    rintro e w2 ⟨p2, rfl, ⟨ja, jc, ia, ic, rfl, ho1, ho2⟩, hb2⟩
    have hrz := below_blk HZ.out hb2
    have hb3 := bnext HB.out hb2
    have hs2 := HS.out
    clear HC c0 c1 c2 c3 c4
    simp only at ho1 ho2
    go_wp2_with (refine wpList_store_row rfl 31 _ _ rfl (w.heap.size + 1) _ rfl rfl 31 _ hrz (by kernel_rfl) rfl (cells5 _ _ _ _ _ _ _ _ _) ?_)
    have hon := onlyR w2 (w.heap.size + 1) #[.int .i64 ac, .slice ja vl.length jc, .int .i64 r, .slice ia ks.length ic, .bool false]
    exact proRet rfl rfl rfl (setRow_heap _ _ _ _ _ _ hrz) Try.underlying31 rfl rfl ⟨_, rfl, ⟨_, _, _, _, rfl, (ownV_past ho1 hon (by omega)).mono (by omega), (ownG_past ho2 hon (by omega)).mono (by omega)⟩, seen hb3 (by omega) hon⟩
  have q3' : ¬ a ≥ ac := q3
  have HN := Lib.hid (show ¬ (false = true ∨ r ≠ r ∨ a < 0 ∨ ac ≤ a) by simp; omega)
  cases hL : VM.le xs vl
  · rw [PM.rcv_new (s := ⟨ac, vl, r, ks, false⟩) (a := a) (r := r) (v := xs) HN.out hL]
    rw [hL] at HQ
    clear hL
    obtain ⟨J, HE⟩ : ∃ J, Hid (VM.jn vl xs = J) := ⟨_, Lib.hid rfl⟩
    simp only
    have HC := Lib.hid (fun w2 (h : Below w1.heap.size w1 w2) => pAdvance _ _ ⟨ac, vl, r, ks, false⟩ xs w2 (HP.out.below h) (HV.out.below h) HL1.out h3 h4)
    simp only at HC
    rw [HE.out] at HC ⊢
    go_enter Try.func13, Try.ntmps13
    go_upto_region 2 with fail
    rw [HW.out]
    clear HW
    go_wp2_with fail
    refine HQ.out.mono ?_
    rintro e wq ⟨rfl, hbq⟩
    have hra := below_blk HA.out hbq
    have HCq := Lib.hid (HC.out wq hbq)
    have hs2 : w.heap.size + 2 ≤ wq.heap.size := by rw [← HS.out]; exact hbq.size
    clear HQ HC c0 c1 c2 c3 c4
    go_wp2_with (refine wpList_load_row rfl 31 _ rfl w.heap.size rfl 31 _ (0, 0) _ hra Try.underlying31 rfl (by kernel_rfl) ?_)
    refine HCq.out.mono ?_
    rintro e w2 ⟨p2, rfl, ⟨ja, jc, ia, ic, rfl, ho1, ho2⟩, hb2⟩
    have hrz := below_blk (below_blk HZ.out hbq) hb2
    have hb3 := bnext (bnext HB.out hbq) hb2
    clear HCq
    have hs3 := hb2.size
    simp only at ho1 ho2
    go_wp2_with (refine wpList_store_row rfl 31 _ _ rfl (w.heap.size + 1) _ rfl rfl 31 _ hrz (by kernel_rfl) rfl (cells5 _ _ _ _ _ _ _ _ _) ?_)
    have hon := onlyR w2 (w.heap.size + 1) #[.int .i64 ac, .slice ja J.length jc, .int .i64 (r + 1), .slice ia 0 ic, .bool false]
    exact proRet rfl rfl rfl (setRow_heap _ _ _ _ _ _ hrz) Try.underlying31 rfl rfl ⟨_, rfl, ⟨_, _, _, _, rfl, (ownV_past ho1 hon (by omega)).mono (by omega), (ownG_past ho2 hon (by omega)).mono (by omega)⟩, seen hb3 (by omega) hon⟩
  · rw [PM.rcv_ack (s := ⟨ac, vl, r, ks, false⟩) (a := a) (r := r) (v := xs) HN.out hL]
    rw [hL] at HQ
    clear hL
    obtain ⟨J, HE⟩ : ∃ J, Hid (PM.ins a ks = J) := ⟨_, Lib.hid rfl⟩
    simp only
    have HC := Lib.hid (fun w2 (h : Below w1.heap.size w1 w2) => pAck _ ⟨ac, vl, r, ks, false⟩ a w2 (HP.out.below h) (by have := HL1.out; show vl.length ≤ _; omega) HL2.out HAS.out)
    simp only at HC
    rw [HE.out] at HC ⊢
    go_enter Try.func13, Try.ntmps13
    go_upto_region 2 with fail
    rw [HW.out]
    clear HW
    go_wp2_with fail
    refine HQ.out.mono ?_
    rintro e wq ⟨rfl, hbq⟩
    have hra := below_blk HA.out hbq
    have HCq := Lib.hid (HC.out wq hbq)
    have hs2 : w.heap.size + 2 ≤ wq.heap.size := by rw [← HS.out]; exact hbq.size
    clear HQ HC c0 c1 c2 c3 c4
    go_wp2_with (refine wpList_load_row rfl 31 _ rfl w.heap.size rfl 31 _ (0, 0) _ hra Try.underlying31 rfl (by kernel_rfl) ?_)
    refine HCq.out.mono ?_
    rintro e w2 ⟨p2, rfl, ⟨ja, jc, ia, ic, rfl, ho1, ho2⟩, hb2⟩
    have hrz := below_blk (below_blk HZ.out hbq) hb2
    have hb3 := bnext (bnext HB.out hbq) hb2
    clear HCq
    have hs3 := hb2.size
    simp only at ho1 ho2
    go_wp2_with (refine wpList_store_row rfl 31 _ _ rfl (w.heap.size + 1) _ rfl rfl 31 _ hrz (by kernel_rfl) rfl (cells5 _ _ _ _ _ _ _ _ _) ?_)
    have hon := onlyR w2 (w.heap.size + 1) #[.int .i64 ac, .slice ja vl.length jc, .int .i64 r, .slice ia J.length ic, .bool (decide (ac < 2 * (J.length : Int)))]
    exact proRet rfl rfl rfl (setRow_heap _ _ _ _ _ _ hrz) Try.underlying31 rfl rfl ⟨_, rfl, ⟨_, _, _, _, rfl, (ownV_past ho1 hon (by omega)).mono (by omega), (ownG_past ho2 hon (by omega)).mono (by omega)⟩, seen hb3 (by omega) hon⟩

/-- What the landed package gives. -/
theorem cPT : PT where
  new := fun G n v xs w hG hv hx hl h1 h2 => by
    obtain ⟨va, vc, rfl, _, _⟩ := hv.rd.shape
    obtain ⟨w1, hw1, hZ, hb1, hs1⟩ := oneP 31 w (.int .i64 0) (.slice none 0 0) (.int .i64 0) (.slice none 0 0) (.bool false)
    have HW := Lib.hid hw1
    have HZ := Lib.hid hZ
    have HB := Lib.hid hb1
    have HS := Lib.hid hs1
    have HG := Lib.hid hG
    have HC := Lib.hid (oCloneV _ xs w1 (hv.rd.below hb1) (by omega))
    clear hw1 hZ hb1 hs1 hG hv hx hl
    go_enter Try.func9, Try.ntmps9
    go_upto_region 1 with fail
    rw [HW.out]
    clear HW
    go_wp2_with fail
    refine HC.out.mono ?_
    rintro e w2 ⟨v2, rfl, ho2, hb2⟩
    obtain ⟨ja, jc, rfl, _, _⟩ := ho2.rd.shape
    have hrz := below_blk HZ.out hb2
    have hb3 := bnext HB.out hb2
    have hs2 := HS.out
    clear HC
    go_wp2_with (refine wpList_store_row rfl 31 _ _ rfl w.heap.size _ rfl rfl 31 _ hrz (by kernel_rfl) rfl (cells5 _ _ _ _ _ _ _ _ _) ?_)
    have hon := onlyR w2 w.heap.size #[.int .i64 n, .slice ja xs.length jc, .int .i64 1, .slice none 0 0, .bool false]
    exact proRet1 rfl rfl (setRow_heap _ _ _ _ _ _ hrz) Try.underlying31 rfl rfl ⟨_, rfl, (show OwnP w.heap.size _ _ ⟨n, xs, 1, [], false⟩ from ⟨_, _, _, _, rfl, (ownV_past ho2 hon (by omega)).mono (by omega), OwnG.nil hlI _ _ _⟩).pro HG.out, seen hb3 (Nat.le_refl _) hon⟩
  recv := fun G p v s a r xs w hG hp hv hs hx hl1 hl2 hr0 hr1 => (pRecv p v s a r xs w hp.rd hv.rd (by omega) (by have := hs.len; omega) hs.asc hr0 hr1 hs.val hx).mono fun e w' h => by
    obtain ⟨p', rfl, h1, h2⟩ := h
    exact ⟨p', rfl, h1.pro hG, h2⟩
  prop := fun G p v s xs w hG hp hv hs hx hl1 hl2 hr0 hr1 => (pProp p v s xs w hp.rd hv.rd (by omega) (by have := hs.len; omega) hr0 hr1).mono fun e w' h => by
    obtain ⟨p', rfl, h1, h2⟩ := h
    exact ⟨p', rfl, h1.pro hG, h2⟩
end Go.Proofs.Ytejedodicihecaa
