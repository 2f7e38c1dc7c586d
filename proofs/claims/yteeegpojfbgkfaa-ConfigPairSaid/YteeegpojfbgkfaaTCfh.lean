/-
  The calls of package config that add, encode, decode: package sets' at its own kind. Conditions: what comes in reads; further ones at each. (Written by mk_sets.py.)
-/
import Derived.Test.YteeegpojfbgkfaaTAdd
import Derived.Test.YteeegpojfbgkfaaTDec
import Derived.Test.YteeegpojfbgkfaaTCfg
namespace Go.Proofs.Yteeegpojfbgkfaa
open Go.RowKit
open JM (Chg)
open CM (Fp)
open VM (Ent)

set_option maxRecDepth 100000 in
set_option maxHeartbeats 4000000 in
theorem gAdd (v : Value) (fs : List Fp) (x m : Int) (sv : Value) (cs : List Chg) (w : World) (h : RdF w v fs) (hs : RdC w sv cs) (hok : CM.Ok fs) :
    Calls Try.prog 34 #[v, pv x m sv] w fun e w' => ∃ v', e = .returned (.tuple #[v', .int .i64 (CM.addP fs (x, m, cs)).1]) ∧ RdF w' v' (CM.addP fs (x, m, cs)).2 ∧ Below w.heap.size w w' := by
  obtain ⟨ad, cp, rfl, hcp, _⟩ := h.shape
  obtain ⟨da, dc, rfl, hdc, _⟩ := hs.shape
  obtain ⟨w1, HX⟩ := eone w x m (.slice da cs.length dc)
  have HW := Lib.hid HX.eq
  have HB1 := Lib.hid HX.below
  have HP1 := Lib.hid HX.e
  have HS := Lib.hid (fun w' (hb : Below w1.heap.size w1 w') => sAdd _ fs x m _ cs w' (h.below (bnext HX.below hb)) (hs.below (bnext HX.below hb)) hok)
  obtain ⟨R, hR⟩ : ∃ R, R = CM.addP fs (x, m, cs) := ⟨_, rfl⟩
  rw [← hR] at HS ⊢
  clear h hs hok HX hR
  go_enter Try.func34, Try.ntmps34
  go_upto_region 1 with fail
  rw [HW.out]
  refine wp_region_held_drew (S := fun w' => Below w1.heap.size w1 w') (by kernel_rfl) ((Below.refl _ _).drew) (fun ha => ?_)
  replace ha : Below w1.heap.size w1 w1.drew := (Below.refl _ _).drew
  generalize w1.drew = wa at ha ⊢
  refine takeH (i := 1) (v := ?_) rfl (by kernel_rfl) (by kernel_rfl) (by kernel_rfl) (fun _ _ _ h => h) (Or.inl ⟨by rfl, ?_⟩) (by assumption) ?_
  rotate_left
  · (intro w hSw; (try dsimp only at hSw); go_simp; first | done | with_reducible rfl)
  (try simp only [Act.put, List.setIfInBounds_toArray, List.set_cons_zero, List.set_cons_succ])
  refine takeH (i := 2) (v := ?_) rfl (by kernel_rfl) (by kernel_rfl) (by kernel_rfl) (fun _ _ _ h => h) (Or.inl ⟨by rfl, ?_⟩) (by assumption) ?_
  rotate_left
  · (intro w hSw; (try dsimp only at hSw); obtain ⟨p0, p1, p2, _⟩ := (HP1.out.below hSw).cells; go_simp; first | done | with_reducible rfl)
  (try simp only [Act.put, List.setIfInBounds_toArray, List.set_cons_zero, List.set_cons_succ])
  refine wpAnyH_ready (rs := [0]) (by kernel_rfl) (by simp) ?_
  refine stepH rfl (fun K hK => ?_) AllReadyH.nil
  go_simp
  refine (cElements wa).mono ?_
  rintro e wb ⟨rfl, hq⟩
  have hb := bnext ha hq
  go_wp2_with fail
  refine hK.out _ _ (hb) (fun _ => ?_)
  clear hK K
  (try simp only [Act.put, List.setIfInBounds_toArray, List.set_cons_zero, List.set_cons_succ])
  refine wpAnyH_ready (rs := [3]) (by kernel_rfl) (by simp) ?_
  refine stepH rfl (fun K hK => ?_) AllReadyH.nil
  go_simp
  refine (HS.out wb hb).mono ?_
  rintro e wc ⟨vc, rfl, hof, hq⟩
  have hc := bnext hb hq
  go_wp2_with fail
  refine hK.out _ _ (hc) (fun _ => ?_)
  clear hK K
  (try simp only [Act.put, List.setIfInBounds_toArray, List.set_cons_zero, List.set_cons_succ])
  refine takeH (i := 4) (v := ?_) rfl (by kernel_rfl) (by kernel_rfl) (by kernel_rfl) (fun _ _ _ h => h) (Or.inl ⟨by rfl, ?_⟩) (by assumption) ?_
  rotate_left
  · (intro w hSw; (try dsimp only at hSw); go_simp; first | done | with_reducible rfl)
  (try simp only [Act.put, List.setIfInBounds_toArray, List.set_cons_zero, List.set_cons_succ])
  refine takeH (i := 5) (v := ?_) rfl (by kernel_rfl) (by kernel_rfl) (by kernel_rfl) (fun _ _ _ h => h) (Or.inl ⟨by rfl, ?_⟩) (by assumption) ?_
  rotate_left
  · (intro w hSw; (try dsimp only at hSw); go_simp; first | done | with_reducible rfl)
  (try simp only [Act.put, List.setIfInBounds_toArray, List.set_cons_zero, List.set_cons_succ])
  refine takeH (i := 6) (v := ?_) rfl (by kernel_rfl) (by kernel_rfl) (by kernel_rfl) (fun _ _ _ h => h) (Or.inl ⟨by rfl, ?_⟩) (by assumption) ?_
  rotate_left
  · (intro w hSw; (try dsimp only at hSw); go_simp; first | done | with_reducible rfl)
  (try simp only [Act.put, List.setIfInBounds_toArray, List.set_cons_zero, List.set_cons_succ])
  refine takeH (i := 7) (v := ?_) rfl (by kernel_rfl) (by kernel_rfl) (by kernel_rfl) (fun _ _ _ h => h) (Or.inl ⟨by rfl, ?_⟩) (by assumption) ?_
  rotate_left
  · (intro w hSw; (try dsimp only at hSw); go_simp; first | done | with_reducible rfl)
  (try simp only [Act.put, List.setIfInBounds_toArray, List.set_cons_zero, List.set_cons_succ])
  refine wpAnyH_done (by kernel_rfl) ?_ _
  have HOF := Lib.hid hof.rd
  have HBF := Lib.hid (bnext HB1.out hc)
  clear hof ha hb hc HS
  go_wp2
  go_ret2
  exact ⟨_, rfl, HOF.out, HBF.out⟩

set_option maxRecDepth 100000 in
set_option maxHeartbeats 1000000 in
theorem gAppendC (v : Value) (bs : List Int) (u : Value) (fs : List Fp) (w : World) (h : Rd w v bs) (hu : RdF w u fs) (hok : CM.Ok fs) (hlen : bs.length ≤ 1000000) :
    Calls Try.prog 40 #[v, u] w fun e w' => ∃ v', e = .returned v' ∧ Own w.heap.size w' v' (bs ++ CM.encL fs) ∧ Below w.heap.size w w' := by
  have HE := Lib.hid (cElements w)
  have HS := Lib.hid (fun w' (hb : Below w.heap.size w w') => sAppend v bs u fs w' (h.below hb) (hu.below hb) hok hlen)
  obtain ⟨va, vc, rfl, _⟩ := h.shape
  obtain ⟨ua, uc, rfl, _, _⟩ := hu.shape
  clear h hu hok
  go_enter Try.func40, Try.ntmps40
  go_wp2_with fail
  refine HE.out.mono ?_
  rintro e w1 ⟨rfl, hb1⟩
  have HS1 := Lib.hid (HS.out w1 hb1)
  have HB1 := Lib.hid hb1
  clear HS HE hb1
  go_wp2_with fail
  refine HS1.out.mono ?_
  rintro e w2 ⟨v', rfl, ho2, hb2⟩
  have HO2 := Lib.hid (ho2.mono HB1.out.size)
  have HB2 := Lib.hid (bnext HB1.out hb2)
  clear ho2
  go_wp2
  go_ret
  exact ⟨_, rfl, HO2.out, HB2.out⟩

set_option maxRecDepth 100000 in
set_option maxHeartbeats 1000000 in
theorem gDecodeC (v : Value) (xs : List Int) (w : World) (h : Rd w v xs) :
    Calls Try.prog 41 #[v] w fun e w' => ∃ v', e = .returned (.tuple #[v', .int .i64 ((CM.decL xs).2.1 : Int), .int .i64 (CM.decL xs).1]) ∧ RdF w' v' (CM.decL xs).2.2 ∧ Below w.heap.size w w' := by
  have HE := Lib.hid (cElements w)
  have HS := Lib.hid (fun w' (hb : Below w.heap.size w w') => sDecode v xs w' (h.below hb))
  obtain ⟨va, vc, rfl, _⟩ := h.shape
  clear h
  go_enter Try.func41, Try.ntmps41
  go_wp2_with fail
  refine HE.out.mono ?_
  rintro e w1 ⟨rfl, hb1⟩
  have HS1 := Lib.hid (HS.out w1 hb1)
  have HB1 := Lib.hid hb1
  clear HS HE hb1
  go_wp2_with fail
  refine HS1.out.mono ?_
  rintro e w2 ⟨v', rfl, ho2, hb2⟩
  have HO2 := Lib.hid ho2
  have HB2 := Lib.hid (bnext HB1.out hb2)
  clear ho2
  go_wp2
  go_ret3
  exact ⟨_, rfl, HO2.out, HB2.out⟩

end Go.Proofs.Yteeegpojfbgkfaa
