/-
  The law QuorumMonotone of layer 4, walked: true, and memory of others as it was. Conditions: the lists that came in read.
-/
import Derived.Deep.CutRange
import Derived.Test.YtbbgjckiooejhaaReg
import Derived.Test.YtbbgjckiooejhaaQStep
import Derived.Test.YtbbgjckiooejhaaQAwake
import Derived.Test.YtbbgjckiooejhaaQViewK
namespace Go.Proofs.Ytbbgjckiooejhaa
open Go.RowKit
open QM (Mem)

section
variable {W : World} {B : Nat} {s : Value} {k c f : Int}
theorem VBox.c0 (h : VBox W B s k c f) : W.cell? ⟨B, 0, none⟩ = some s := h.2.1
theorem VBox.c1 (h : VBox W B s k c f) : W.cell? ⟨B, 1, none⟩ = some (.int .i64 k) := h.2.2.1
theorem VBox.c2 (h : VBox W B s k c f) : W.cell? ⟨B, 2, none⟩ = some (.int .i64 c) := h.2.2.2.1
theorem VBox.c3 (h : VBox W B s k c f) : W.cell? ⟨B, 3, none⟩ = some (.int .i64 f) := h.2.2.2.2
end
theorem len2 (xs ys : List Int) : ([] ++ xs ++ ys).length = xs.length + ys.length := by simp
theorem len3 (xs : List Int) : ([] ++ xs ++ [0, 99, -1]).length = xs.length + 3 := by simp
abbrev E0 : Obj := .cells #[] 3
abbrev E3 : Obj := .cells #[.int .i64 0, .int .i64 99, .int .i64 (-1)] 3
theorem own_0 (W : World) : OwnI W.heap.size (W.alloc E0) (.slice (some ⟨W.heap.size, 0, none⟩) 0 0) [] := ownG_fresh hlI 3 W [] (by decide)
theorem rd_3 (W : World) : RdI (W.alloc E3) (.slice (some ⟨W.heap.size, 0, none⟩) 3 3) [0, 99, -1] := (ownG_fresh hlI 3 W [0, 99, -1] (by decide)).rd

theorem any_succ {α : Type} {l : List α} {j : Nat} {x : α} (h : l[j]? = some x) (p : α → Bool) : (l.take (j + 1)).any p = ((l.take j).any p || p x) := by
  obtain ⟨hj, rfl⟩ := List.getElem?_eq_some_iff.1 h
  rw [List.take_succ_eq_append_getElem hj, List.any_append]
  simp
theorem all_succ {α : Type} {l : List α} {j : Nat} {x : α} (h : l[j]? = some x) (p : α → Bool) : (l.take (j + 1)).all p = ((l.take j).all p && p x) := by
  obtain ⟨hj, rfl⟩ := List.getElem?_eq_some_iff.1 h
  rw [List.take_succ_eq_append_getElem hj, List.all_append]
  simp

set_option maxRecDepth 100000 in
set_option maxHeartbeats 4000000 in
theorem lQuorumMonotone (n m : Int) (sv uv : Value) (xs ys : List Int) (w : World) (hx : RdI w sv xs) (hy : RdI w uv ys) :
    Calls Try.prog 6 #[.int .i64 n, .int .i64 m, sv, uv] w fun e w' => e = .returned (.bool true) ∧ Below w.heap.size w w' := by
  have HA := Lib.hid cAwake
  have HK := Lib.hid (kView n m)
  obtain ⟨a2, c2, rfl, hc2, hl2⟩ := hx.shape
  obtain ⟨a3, c3, rfl, hc3, hl3⟩ := hy.shape
  have HXS := Lib.hid hx
  have HYS := Lib.hid hy
  clear hx hy
  by_cases h30 : 30 < xs.length
  · have hz : (30 : Int) < (xs.length : Int) := by omega
    go_enter Try.func6, Try.ntmps6
    go_wp2_with fail
    refine (HA.out _).mono ?_
    rintro e w1 ⟨rfl, hb1⟩
    go_wp2
    go_ret
    exact ⟨rfl, hb1⟩
  by_cases h30' : 30 < ys.length
  · have hz : ¬ (30 : Int) < (xs.length : Int) := by omega
    have hz' : (30 : Int) < (ys.length : Int) := by omega
    go_enter Try.func6, Try.ntmps6
    go_wp2_with fail
    refine (HA.out _).mono ?_
    rintro e w1 ⟨rfl, hb1⟩
    go_wp2
    go_ret
    exact ⟨rfl, hb1⟩
  have hz : ¬ (30 : Int) < (xs.length : Int) := by omega
  have hz' : ¬ (30 : Int) < (ys.length : Int) := by omega
  go_enter Try.func6, Try.ntmps6
  go_wp2_with fail
  refine (HK.out _).mono ?_
  rintro e w1 ⟨sv, k, c, f, ms, rfl, ho1, he, hml, hb1⟩
  obtain ⟨ad, cp, rfl, hcp, _⟩ := ho1.rd.shape
  have hX := VBox.fresh w1 (.slice ad ms.length cp) k c f
  have hf2 := below_fresh w1 (.cells #[.slice ad ms.length cp, .int .i64 k, .int .i64 c, .int .i64 f] 26)
  have HR2 := Lib.hid (ho1.rd.below hf2)
  have HX2 := Lib.hid hX
  have HB2 := Lib.hid (bnext hb1 hf2)
  obtain ⟨her, hval⟩ := QM.errV_zero.1 he
  have HIS := Lib.hid (fun u zs w (hw : RdM w (.slice ad ms.length cp) ms) (hu : RdI w u zs) => cIsQuorum (.slice ad ms.length cp) u k c f ms zs w hw hu he)
  have HMI := Lib.hid (fun w (hw : RdM w (.slice ad ms.length cp) ms) => cMinimal (.slice ad ms.length cp) k c f ms w hw he)
  have HX2' := Lib.hid ((HXS.out.below hb1).below hf2)
  have HY2' := Lib.hid ((HYS.out.below hb1).below hf2)
  have HL := Lib.hid hval
  clear HK ho1 hb1 hX hf2 he her hval HXS HYS h30 h30'
  go_upto_region 4 with fail
  generalize w1.alloc (.cells #[.slice ad ms.length cp, .int .i64 k, .int .i64 c, .int .i64 f] 26) = w2 at HR2 HX2 HB2 HX2' HY2' ⊢
  generalize w1.heap.size = B at HX2 ⊢
  have hE := ownG_fresh hlI 3 w2 [] (by decide)
  have hfE := below_fresh w2 (.cells #[] 3)
  have HE := Lib.hid (show OwnI w2.heap.size (w2.alloc (.cells #[] 3)) (.slice (some ⟨w2.heap.size, 0, none⟩) 0 0) [] from hE)
  have HXE := Lib.hid (HX2'.out.below hfE)
  have HYE := Lib.hid (HY2'.out.below hfE)
  have HFE := Lib.hid hfE
  have hsE : w2.heap.size ≤ (w2.alloc (.cells #[] 3)).heap.size := hfE.size
  clear hE hfE
  go_wp2_with (at_builtin; first
    | (refine wp_appGS intE rfl _ _ rfl rfl HE.out rfl HXE.out (by simp) (by omega) hsE ?_; intro v5 w5 ho5 hb5 hk5; have hs5 := Nat.le_trans hsE hb5.size; have hy5 : RdI w5 (.slice a3 ys.length c3) ys := HY2'.out.below (HFE.out.trans hb5))
    | (refine wp_appGS intE rfl _ _ rfl rfl ho5 rfl hy5 (by simp; omega) (by omega) hs5 ?_; intro v6 w6 ho6 hb6 hk6; have hb26 := (HFE.out.trans hb5).trans hb6; obtain ⟨x0, x1, x2, x3, x4⟩ := HX2.out.below hb26; obtain ⟨a6, c6, rfl, _, _⟩ := ho6.rd.shape))
  obtain ⟨q0, hq0⟩ : ∃ q, q = QM.isQ k c f ms (fun x => decide (x ∈ xs)) := ⟨_, rfl⟩
  have hq1 : q0 = true → QM.isQ k c f ms (fun x => decide (x ∈ xs ++ ys)) = true := fun h => QM.isQ_mono HL.out (fun m _ hm => by
    rw [decide_eq_true_iff] at hm ⊢
    exact List.mem_append_left _ hm) (hq0.symm.trans h)
  have hq2 : QM.isQ k c f ms (fun x => decide (x ∈ xs ++ [0, 99, -1])) = q0 := by
    rw [hq0]
    refine QM.isQ_congr fun m hm => ?_
    have := HL.out.mem m hm
    rw [decide_eq_decide, List.mem_append]
    constructor
    · rintro (h | h)
      · exact h
      · simp at h; omega
    · exact .inl
  have hfi : ∀ ls, QM.MinL (QM.isQ k c f ms) ms ls → ls.any (fun r => r.all fun x => decide (x ∈ xs)) = q0 := fun ls hl => by rw [QM.found_iff HL.out hl, hq0]
  have hi0 := fun w hw hu => HIS.out (.slice a2 xs.length c2) xs w hw hu
  rw [← hq0] at hi0
  have HI0 := Lib.hid hi0
  have HQ1 := Lib.hid hq1
  have HQ2 := Lib.hid hq2
  have HFI := Lib.hid hfi
  have HR6 := Lib.hid (HR2.out.below hb26)
  have HV6 := Lib.hid (HX2.out.below hb26)
  have HX6 := Lib.hid (HX2'.out.below hb26)
  have HB6 := Lib.hid (bnext HB2.out hb26)
  have HO6 := Lib.hid (show RdI w6 (.slice a6 (xs.length + ys.length) c6) (xs ++ ys) from by have h := ho6.rd; rw [len2] at h; exact h)
  clear hq0 hq1 hq2 hfi hi0 HR2 HX2 HB2 HX2' HY2' HE HXE HYE HFE hsE ho5 hb5 hk5 hs5 hy5 ho6 hb6 hk6 hb26
  go_wp2_with fail
  refine (HI0.out _ HR6.out HX6.out).mono ?_
  rintro e w7 ⟨rfl, hb7⟩
  have HR7 := Lib.hid (HR6.out.below hb7)
  have HV7 := Lib.hid (HV6.out.below hb7)
  have HX7 := Lib.hid (HX6.out.below hb7)
  have HB7 := Lib.hid (bnext HB6.out hb7)
  have HO7 := Lib.hid (HO6.out.below hb7)
  clear HR6 HV6 HX6 HB6 HO6 hb7 x0 x1 x2 x3 x4
  have hi1 := fun (h : q0 = true) u w hw hu => (show Calls Try.prog 18 #[vw (.slice ad ms.length cp) k c f, u] w fun e w' => e = .returned (.bool true) ∧ Below w.heap.size w w' from by
    have := HIS.out u (xs ++ ys) w hw hu
    rwa [HQ1.out h] at this)
  have hi2 := fun u w hw hu => (show Calls Try.prog 18 #[vw (.slice ad ms.length cp) k c f, u] w fun e w' => e = .returned (.bool q0) ∧ Below w.heap.size w w' from by
    have := HIS.out u ([] ++ xs ++ [0, 99, -1]) w hw hu
    rwa [List.nil_append, HQ2.out] at this)
  have HI1 := Lib.hid hi1
  have HI2 := Lib.hid hi2
  clear hi1 hi2 HIS HQ1 HQ2
  go_upto_region 6 with fail
  go_cut [54] from 37 to 53 (fun p54 wx => p54 = .bool false ∧ Hid (Below w7.heap.size w7 wx))
  case first =>
    cases q0
    · refine wp_region_held_drew (S := fun w' => Below w7.heap.size w7 w') (by kernel_rfl) ((Below.refl _ _).drew) (fun ha => ?_)
      replace ha : Below w7.heap.size w7 w7.drew := (Below.refl _ _).drew
      generalize w7.drew = wa at ha ⊢
      refine takeH (i := 0) (v := ?_) rfl (by kernel_rfl) (by kernel_rfl) (by kernel_rfl) (fun _ _ _ h => h) (Or.inl ⟨by rfl, ?_⟩) (by assumption) ?_
      rotate_left
      · (intro w hSw; (try dsimp only at hSw); go_simp; first | done | with_reducible rfl)
      (try simp only [Act.put, List.setIfInBounds_toArray, List.set_cons_zero, List.set_cons_succ])
      refine takeH (i := 1) (v := ?_) rfl (by kernel_rfl) (by kernel_rfl) (by kernel_rfl) (fun _ _ _ h => h) (Or.inl ⟨by rfl, ?_⟩) (by assumption) ?_
      rotate_left
      · (intro w hSw; (try dsimp only at hSw); go_simp; first | done | with_reducible rfl)
      (try simp only [Act.put, List.setIfInBounds_toArray, List.set_cons_zero, List.set_cons_succ])
      refine takeH (i := 2) (v := undef) rfl (by kernel_rfl) (by kernel_rfl) (by kernel_rfl) (fun _ _ _ h => h) (Or.inr ⟨by rfl, rfl⟩) (by assumption) ?_
      (try simp only [Act.put, List.setIfInBounds_toArray, List.set_cons_zero, List.set_cons_succ])
      refine takeH (i := 3) (v := undef) rfl (by kernel_rfl) (by kernel_rfl) (by kernel_rfl) (fun _ _ _ h => h) (Or.inr ⟨by rfl, rfl⟩) (by assumption) ?_
      (try simp only [Act.put, List.setIfInBounds_toArray, List.set_cons_zero, List.set_cons_succ])
      refine takeH (i := 4) (v := undef) rfl (by kernel_rfl) (by kernel_rfl) (by kernel_rfl) (fun _ _ _ h => h) (Or.inr ⟨by rfl, rfl⟩) (by assumption) ?_
      (try simp only [Act.put, List.setIfInBounds_toArray, List.set_cons_zero, List.set_cons_succ])
      refine takeH (i := 5) (v := undef) rfl (by kernel_rfl) (by kernel_rfl) (by kernel_rfl) (fun _ _ _ h => h) (Or.inr ⟨by rfl, rfl⟩) (by assumption) ?_
      (try simp only [Act.put, List.setIfInBounds_toArray, List.set_cons_zero, List.set_cons_succ])
      refine takeH (i := 6) (v := ?_) rfl (by kernel_rfl) (by kernel_rfl) (by kernel_rfl) (fun _ _ _ h => h) (Or.inl ⟨by rfl, ?_⟩) (by assumption) ?_
      rotate_left
      · (intro w hSw; (try dsimp only at hSw); go_simp; first | done | with_reducible rfl)
      (try simp only [Act.put, List.setIfInBounds_toArray, List.set_cons_zero, List.set_cons_succ])
      refine takeH (i := 7) (v := ?_) rfl (by kernel_rfl) (by kernel_rfl) (by kernel_rfl) (fun _ _ _ h => h) (Or.inl ⟨by rfl, ?_⟩) (by assumption) ?_
      rotate_left
      · (intro w hSw; (try dsimp only at hSw); go_simp; first | done | with_reducible rfl)
      (try simp only [Act.put, List.setIfInBounds_toArray, List.set_cons_zero, List.set_cons_succ])
      refine takeH (i := 8) (v := ?_) rfl (by kernel_rfl) (by kernel_rfl) (by kernel_rfl) (fun _ _ _ h => h) (Or.inl ⟨by rfl, ?_⟩) (by assumption) ?_
      rotate_left
      · (intro w hSw; (try dsimp only at hSw); obtain ⟨p0, p1, p2, p3, p4⟩ := HV7.out.below hSw; go_simp; first | done | with_reducible rfl)
      (try simp only [Act.put, List.setIfInBounds_toArray, List.set_cons_zero, List.set_cons_succ])
      refine takeH (i := 10) (v := ?_) rfl (by kernel_rfl) (by kernel_rfl) (by kernel_rfl) (fun _ _ _ h => h) (Or.inl ⟨by rfl, ?_⟩) (by assumption) ?_
      rotate_left
      · (intro w hSw; (try dsimp only at hSw); go_simp; first | done | with_reducible rfl)
      (try simp only [Act.put, List.setIfInBounds_toArray, List.set_cons_zero, List.set_cons_succ])
      refine takeH (i := 15) (v := ?_) rfl (by kernel_rfl) (by kernel_rfl) (by kernel_rfl) (fun _ _ _ h => h) (Or.inl ⟨by rfl, ?_⟩) (by assumption) ?_
      rotate_left
      · (intro w hSw; (try dsimp only at hSw); go_simp; first | done | with_reducible rfl)
      (try simp only [Act.put, List.setIfInBounds_toArray, List.set_cons_zero, List.set_cons_succ])
      refine wpAnyH_ready (rs := [9, 12]) (by kernel_rfl) (by simp) ?_
      refine stepH rfl (fun K hK => ?_) (stepH rfl (fun K hK => ?_) AllReadyH.nil)
      · go_simp
        have hfwb := below_fresh wa E0
        have ho46 : OwnI w7.heap.size (wa.alloc E0) (.slice (some ⟨wa.heap.size, 0, none⟩) 0 0) [] := (own_0 wa).mono ha.size
        have hb : Below w7.heap.size w7 (wa.alloc E0) := bnext ha hfwb
        have hzwb := Lib.hid (show (wa.alloc E0).heap.size = wa.heap.size + 1 from World.size_alloc _ _)
        refine hK.out _ _ (hb) (fun _ => ?_)
        clear hK K
        (try simp only [Act.put, List.setIfInBounds_toArray, List.set_cons_zero, List.set_cons_succ])
        generalize wa.alloc E0 = wb at *
        refine wpAnyH_ready (rs := [11, 12]) (by kernel_rfl) (by simp) ?_
        refine stepH rfl (fun K hK => ?_) (stepH rfl (fun K hK => ?_) AllReadyH.nil)
        · refine step_appGS (base := w7.heap.size) intE (by rfl) (.tmp 46) (.tmp 47) rfl (by rfl) ho46 (by rfl) (HX7.out.below hb) (by simp) (by omega) hb.size ?_
          intro v8 wc ho8 hb8 hg8
          have hc := hb.trans hb8
          obtain ⟨a8, c8, rfl, _, _⟩ := ho8.rd.shape
          refine hK.out _ _ (hc) (fun _ => ?_)
          clear hK K
          (try simp only [Act.put, List.setIfInBounds_toArray, List.set_cons_zero, List.set_cons_succ])
          refine wpAnyH_ready (rs := [12]) (by kernel_rfl) (by simp) ?_
          refine stepH rfl (fun K hK => ?_) AllReadyH.nil
          go_simp
          have hfwd := below_fresh wc E3
          have hr49 := rd_3 wc
          have hd : Below w7.heap.size w7 (wc.alloc E3) := bnext hc hfwd
          have hzwd := Lib.hid (show (wc.alloc E3).heap.size = wc.heap.size + 1 from World.size_alloc _ _)
          have ho8 := ho8.below hfwd
          refine hK.out _ _ (hd) (fun _ => ?_)
          clear hK K
          (try simp only [Act.put, List.setIfInBounds_toArray, List.set_cons_zero, List.set_cons_succ])
          generalize wc.alloc E3 = wd at *
          refine wpAnyH_ready (rs := [13]) (by kernel_rfl) (by simp) ?_
          refine stepH rfl (fun K hK => ?_) AllReadyH.nil
          refine step_appGS (base := w7.heap.size) intE (by rfl) (.tmp 48) (.tmp 49) rfl (by rfl) ho8 (by rfl) hr49 (by rw [List.nil_append]; omega) (by decide) hd.size ?_
          intro v9 wy ho9 hb9 _
          have hy := hd.trans hb9
          have hr9 := ho9.rd
          obtain ⟨a9, c9, hv9, _, _⟩ := hr9.shape
          rw [len3] at hv9
          subst hv9
          refine hK.out _ _ (hy) (fun _ => ?_)
          clear hK K
          (try simp only [Act.put, List.setIfInBounds_toArray, List.set_cons_zero, List.set_cons_succ])
          refine wpAnyH_ready (rs := [14]) (by kernel_rfl) (by simp) ?_
          refine stepH rfl (fun K hK => ?_) AllReadyH.nil
          go_simp
          refine (HI2.out _ wy (HR7.out.below hy) hr9).mono ?_
          rintro e wz ⟨rfl, hb11⟩
          have hz := bnext hy hb11
          go_wp2_with fail
          refine hK.out _ _ (hz) (fun _ => ?_)
          clear hK K
          (try simp only [Act.put, List.setIfInBounds_toArray, List.set_cons_zero, List.set_cons_succ])
          refine takeH (i := 16) (v := ?_) rfl (by kernel_rfl) (by kernel_rfl) (by kernel_rfl) (fun _ _ _ h => h) (Or.inl ⟨by rfl, ?_⟩) (by assumption) ?_
          rotate_left
          · (intro w hSw; (try dsimp only at hSw); go_simp; first | done | with_reducible rfl)
          (try simp only [Act.put, List.setIfInBounds_toArray, List.set_cons_zero, List.set_cons_succ])
          refine takeH (i := 17) (v := ?_) rfl (by kernel_rfl) (by kernel_rfl) (by kernel_rfl) (fun _ _ _ h => h) (Or.inl ⟨by rfl, ?_⟩) (by assumption) ?_
          rotate_left
          · (intro w hSw; (try dsimp only at hSw); go_simp; first | done | with_reducible rfl)
          (try simp only [Act.put, List.setIfInBounds_toArray, List.set_cons_zero, List.set_cons_succ])
          refine wpAnyH_done (by kernel_rfl) ?_ _
          go_wp2
          go_meet
          exact ⟨rfl, hz⟩
        · go_simp
          have hfwc := below_fresh wb E3
          have hr49 := rd_3 wb
          have hc : Below w7.heap.size w7 (wb.alloc E3) := bnext hb hfwc
          have hzwc := Lib.hid (show (wb.alloc E3).heap.size = wb.heap.size + 1 from World.size_alloc _ _)
          have ho46 := ho46.below hfwc
          refine hK.out _ _ (hc) (fun _ => ?_)
          clear hK K
          (try simp only [Act.put, List.setIfInBounds_toArray, List.set_cons_zero, List.set_cons_succ])
          generalize wb.alloc E3 = wc at *
          refine wpAnyH_ready (rs := [11]) (by kernel_rfl) (by simp) ?_
          refine stepH rfl (fun K hK => ?_) AllReadyH.nil
          refine step_appGS (base := w7.heap.size) intE (by rfl) (.tmp 46) (.tmp 47) rfl (by rfl) ho46 (by rfl) (HX7.out.below hc) (by simp) (by omega) hc.size ?_
          intro v8 wd ho8 hb8 hg8
          have hd := hc.trans hb8
          have hr49 := RdG.grown hr49 hg8 (by have h1 := hzwb.out; simp [Value.ownBlock]; omega)
          obtain ⟨a8, c8, rfl, _, _⟩ := ho8.rd.shape
          refine hK.out _ _ (hd) (fun _ => ?_)
          clear hK K
          (try simp only [Act.put, List.setIfInBounds_toArray, List.set_cons_zero, List.set_cons_succ])
          refine wpAnyH_ready (rs := [13]) (by kernel_rfl) (by simp) ?_
          refine stepH rfl (fun K hK => ?_) AllReadyH.nil
          refine step_appGS (base := w7.heap.size) intE (by rfl) (.tmp 48) (.tmp 49) rfl (by rfl) ho8 (by rfl) hr49 (by rw [List.nil_append]; omega) (by decide) hd.size ?_
          intro v9 wy ho9 hb9 _
          have hy := hd.trans hb9
          have hr9 := ho9.rd
          obtain ⟨a9, c9, hv9, _, _⟩ := hr9.shape
          rw [len3] at hv9
          subst hv9
          refine hK.out _ _ (hy) (fun _ => ?_)
          clear hK K
          (try simp only [Act.put, List.setIfInBounds_toArray, List.set_cons_zero, List.set_cons_succ])
          refine wpAnyH_ready (rs := [14]) (by kernel_rfl) (by simp) ?_
          refine stepH rfl (fun K hK => ?_) AllReadyH.nil
          go_simp
          refine (HI2.out _ wy (HR7.out.below hy) hr9).mono ?_
          rintro e wz ⟨rfl, hb11⟩
          have hz := bnext hy hb11
          go_wp2_with fail
          refine hK.out _ _ (hz) (fun _ => ?_)
          clear hK K
          (try simp only [Act.put, List.setIfInBounds_toArray, List.set_cons_zero, List.set_cons_succ])
          refine takeH (i := 16) (v := ?_) rfl (by kernel_rfl) (by kernel_rfl) (by kernel_rfl) (fun _ _ _ h => h) (Or.inl ⟨by rfl, ?_⟩) (by assumption) ?_
          rotate_left
          · (intro w hSw; (try dsimp only at hSw); go_simp; first | done | with_reducible rfl)
          (try simp only [Act.put, List.setIfInBounds_toArray, List.set_cons_zero, List.set_cons_succ])
          refine takeH (i := 17) (v := ?_) rfl (by kernel_rfl) (by kernel_rfl) (by kernel_rfl) (fun _ _ _ h => h) (Or.inl ⟨by rfl, ?_⟩) (by assumption) ?_
          rotate_left
          · (intro w hSw; (try dsimp only at hSw); go_simp; first | done | with_reducible rfl)
          (try simp only [Act.put, List.setIfInBounds_toArray, List.set_cons_zero, List.set_cons_succ])
          refine wpAnyH_done (by kernel_rfl) ?_ _
          go_wp2
          go_meet
          exact ⟨rfl, hz⟩
      · go_simp
        have hfwb := below_fresh wa E3
        have hr49 := rd_3 wa
        have hb : Below w7.heap.size w7 (wa.alloc E3) := bnext ha hfwb
        have hzwb := Lib.hid (show (wa.alloc E3).heap.size = wa.heap.size + 1 from World.size_alloc _ _)
        refine hK.out _ _ (hb) (fun _ => ?_)
        clear hK K
        (try simp only [Act.put, List.setIfInBounds_toArray, List.set_cons_zero, List.set_cons_succ])
        generalize wa.alloc E3 = wb at *
        refine wpAnyH_ready (rs := [9]) (by kernel_rfl) (by simp) ?_
        refine stepH rfl (fun K hK => ?_) AllReadyH.nil
        go_simp
        have hfwc := below_fresh wb E0
        have ho46 : OwnI w7.heap.size (wb.alloc E0) (.slice (some ⟨wb.heap.size, 0, none⟩) 0 0) [] := (own_0 wb).mono hb.size
        have hc : Below w7.heap.size w7 (wb.alloc E0) := bnext hb hfwc
        have hzwc := Lib.hid (show (wb.alloc E0).heap.size = wb.heap.size + 1 from World.size_alloc _ _)
        have hr49 := hr49.below hfwc
        refine hK.out _ _ (hc) (fun _ => ?_)
        clear hK K
        (try simp only [Act.put, List.setIfInBounds_toArray, List.set_cons_zero, List.set_cons_succ])
        generalize wb.alloc E0 = wc at *
        refine wpAnyH_ready (rs := [11]) (by kernel_rfl) (by simp) ?_
        refine stepH rfl (fun K hK => ?_) AllReadyH.nil
        refine step_appGS (base := w7.heap.size) intE (by rfl) (.tmp 46) (.tmp 47) rfl (by rfl) ho46 (by rfl) (HX7.out.below hc) (by simp) (by omega) hc.size ?_
        intro v8 wd ho8 hb8 hg8
        have hd := hc.trans hb8
        have hr49 := RdG.grown hr49 hg8 (by have h1 := hzwb.out; simp [Value.ownBlock]; omega)
        obtain ⟨a8, c8, rfl, _, _⟩ := ho8.rd.shape
        refine hK.out _ _ (hd) (fun _ => ?_)
        clear hK K
        (try simp only [Act.put, List.setIfInBounds_toArray, List.set_cons_zero, List.set_cons_succ])
        refine wpAnyH_ready (rs := [13]) (by kernel_rfl) (by simp) ?_
        refine stepH rfl (fun K hK => ?_) AllReadyH.nil
        refine step_appGS (base := w7.heap.size) intE (by rfl) (.tmp 48) (.tmp 49) rfl (by rfl) ho8 (by rfl) hr49 (by rw [List.nil_append]; omega) (by decide) hd.size ?_
        intro v9 wy ho9 hb9 _
        have hy := hd.trans hb9
        have hr9 := ho9.rd
        obtain ⟨a9, c9, hv9, _, _⟩ := hr9.shape
        rw [len3] at hv9
        subst hv9
        refine hK.out _ _ (hy) (fun _ => ?_)
        clear hK K
        (try simp only [Act.put, List.setIfInBounds_toArray, List.set_cons_zero, List.set_cons_succ])
        refine wpAnyH_ready (rs := [14]) (by kernel_rfl) (by simp) ?_
        refine stepH rfl (fun K hK => ?_) AllReadyH.nil
        go_simp
        refine (HI2.out _ wy (HR7.out.below hy) hr9).mono ?_
        rintro e wz ⟨rfl, hb11⟩
        have hz := bnext hy hb11
        go_wp2_with fail
        refine hK.out _ _ (hz) (fun _ => ?_)
        clear hK K
        (try simp only [Act.put, List.setIfInBounds_toArray, List.set_cons_zero, List.set_cons_succ])
        refine takeH (i := 16) (v := ?_) rfl (by kernel_rfl) (by kernel_rfl) (by kernel_rfl) (fun _ _ _ h => h) (Or.inl ⟨by rfl, ?_⟩) (by assumption) ?_
        rotate_left
        · (intro w hSw; (try dsimp only at hSw); go_simp; first | done | with_reducible rfl)
        (try simp only [Act.put, List.setIfInBounds_toArray, List.set_cons_zero, List.set_cons_succ])
        refine takeH (i := 17) (v := ?_) rfl (by kernel_rfl) (by kernel_rfl) (by kernel_rfl) (fun _ _ _ h => h) (Or.inl ⟨by rfl, ?_⟩) (by assumption) ?_
        rotate_left
        · (intro w hSw; (try dsimp only at hSw); go_simp; first | done | with_reducible rfl)
        (try simp only [Act.put, List.setIfInBounds_toArray, List.set_cons_zero, List.set_cons_succ])
        refine wpAnyH_done (by kernel_rfl) ?_ _
        go_wp2
        go_meet
        exact ⟨rfl, hz⟩
    · refine wp_region_held_drew (S := fun w' => Below w7.heap.size w7 w') (by kernel_rfl) ((Below.refl _ _).drew) (fun ha => ?_)
      replace ha : Below w7.heap.size w7 w7.drew := (Below.refl _ _).drew
      generalize w7.drew = wa at ha ⊢
      refine takeH (i := 0) (v := ?_) rfl (by kernel_rfl) (by kernel_rfl) (by kernel_rfl) (fun _ _ _ h => h) (Or.inl ⟨by rfl, ?_⟩) (by assumption) ?_
      rotate_left
      · (intro w hSw; (try dsimp only at hSw); go_simp; first | done | with_reducible rfl)
      (try simp only [Act.put, List.setIfInBounds_toArray, List.set_cons_zero, List.set_cons_succ])
      refine takeH (i := 1) (v := ?_) rfl (by kernel_rfl) (by kernel_rfl) (by kernel_rfl) (fun _ _ _ h => h) (Or.inl ⟨by rfl, ?_⟩) (by assumption) ?_
      rotate_left
      · (intro w hSw; (try dsimp only at hSw); go_simp; first | done | with_reducible rfl)
      (try simp only [Act.put, List.setIfInBounds_toArray, List.set_cons_zero, List.set_cons_succ])
      refine takeH (i := 2) (v := ?_) rfl (by kernel_rfl) (by kernel_rfl) (by kernel_rfl) (fun _ _ _ h => h) (Or.inl ⟨by rfl, ?_⟩) (by assumption) ?_
      rotate_left
      · (intro w hSw; (try dsimp only at hSw); obtain ⟨p0, p1, p2, p3, p4⟩ := HV7.out.below hSw; go_simp; first | done | with_reducible rfl)
      (try simp only [Act.put, List.setIfInBounds_toArray, List.set_cons_zero, List.set_cons_succ])
      refine takeH (i := 3) (v := ?_) rfl (by kernel_rfl) (by kernel_rfl) (by kernel_rfl) (fun _ _ _ h => h) (Or.inl ⟨by rfl, ?_⟩) (by assumption) ?_
      rotate_left
      · (intro w hSw; (try dsimp only at hSw); go_simp; first | done | with_reducible rfl)
      (try simp only [Act.put, List.setIfInBounds_toArray, List.set_cons_zero, List.set_cons_succ])
      refine wpAnyH_ready (rs := [4]) (by kernel_rfl) (by simp) ?_
      refine stepH rfl (fun K hK => ?_) AllReadyH.nil
      go_simp
      refine (HI1.out rfl _ wa (HR7.out.below ha) (HO7.out.below ha)).mono ?_
      rintro e we ⟨rfl, hbe⟩
      have he := bnext ha hbe
      go_wp2_with fail
      refine hK.out _ _ (he) (fun _ => ?_)
      clear hK K
      (try simp only [Act.put, List.setIfInBounds_toArray, List.set_cons_zero, List.set_cons_succ])
      refine takeH (i := 5) (v := ?_) rfl (by kernel_rfl) (by kernel_rfl) (by kernel_rfl) (fun _ _ _ h => h) (Or.inl ⟨by rfl, ?_⟩) (by assumption) ?_
      rotate_left
      · (intro w hSw; (try dsimp only at hSw); go_simp; first | done | with_reducible rfl)
      (try simp only [Act.put, List.setIfInBounds_toArray, List.set_cons_zero, List.set_cons_succ])
      refine takeH (i := 6) (v := ?_) rfl (by kernel_rfl) (by kernel_rfl) (by kernel_rfl) (fun _ _ _ h => h) (Or.inl ⟨by rfl, ?_⟩) (by assumption) ?_
      rotate_left
      · (intro w hSw; (try dsimp only at hSw); go_simp; first | done | with_reducible rfl)
      (try simp only [Act.put, List.setIfInBounds_toArray, List.set_cons_zero, List.set_cons_succ])
      refine takeH (i := 7) (v := ?_) rfl (by kernel_rfl) (by kernel_rfl) (by kernel_rfl) (fun _ _ _ h => h) (Or.inl ⟨by rfl, ?_⟩) (by assumption) ?_
      rotate_left
      · (intro w hSw; (try dsimp only at hSw); go_simp; first | done | with_reducible rfl)
      (try simp only [Act.put, List.setIfInBounds_toArray, List.set_cons_zero, List.set_cons_succ])
      refine takeH (i := 8) (v := ?_) rfl (by kernel_rfl) (by kernel_rfl) (by kernel_rfl) (fun _ _ _ h => h) (Or.inl ⟨by rfl, ?_⟩) (by assumption) ?_
      rotate_left
      · (intro w hSw; (try dsimp only at hSw); obtain ⟨p0, p1, p2, p3, p4⟩ := HV7.out.below hSw; go_simp; first | done | with_reducible rfl)
      (try simp only [Act.put, List.setIfInBounds_toArray, List.set_cons_zero, List.set_cons_succ])
      refine takeH (i := 10) (v := ?_) rfl (by kernel_rfl) (by kernel_rfl) (by kernel_rfl) (fun _ _ _ h => h) (Or.inl ⟨by rfl, ?_⟩) (by assumption) ?_
      rotate_left
      · (intro w hSw; (try dsimp only at hSw); go_simp; first | done | with_reducible rfl)
      (try simp only [Act.put, List.setIfInBounds_toArray, List.set_cons_zero, List.set_cons_succ])
      refine takeH (i := 15) (v := ?_) rfl (by kernel_rfl) (by kernel_rfl) (by kernel_rfl) (fun _ _ _ h => h) (Or.inl ⟨by rfl, ?_⟩) (by assumption) ?_
      rotate_left
      · (intro w hSw; (try dsimp only at hSw); go_simp; first | done | with_reducible rfl)
      (try simp only [Act.put, List.setIfInBounds_toArray, List.set_cons_zero, List.set_cons_succ])
      refine wpAnyH_ready (rs := [9, 12]) (by kernel_rfl) (by simp) ?_
      refine stepH rfl (fun K hK => ?_) (stepH rfl (fun K hK => ?_) AllReadyH.nil)
      · go_simp
        have hfwb := below_fresh we E0
        have ho46 : OwnI w7.heap.size (we.alloc E0) (.slice (some ⟨we.heap.size, 0, none⟩) 0 0) [] := (own_0 we).mono he.size
        have hb : Below w7.heap.size w7 (we.alloc E0) := bnext he hfwb
        have hzwb := Lib.hid (show (we.alloc E0).heap.size = we.heap.size + 1 from World.size_alloc _ _)
        refine hK.out _ _ (hb) (fun _ => ?_)
        clear hK K
        (try simp only [Act.put, List.setIfInBounds_toArray, List.set_cons_zero, List.set_cons_succ])
        generalize we.alloc E0 = wb at *
        refine wpAnyH_ready (rs := [11, 12]) (by kernel_rfl) (by simp) ?_
        refine stepH rfl (fun K hK => ?_) (stepH rfl (fun K hK => ?_) AllReadyH.nil)
        · refine step_appGS (base := w7.heap.size) intE (by rfl) (.tmp 46) (.tmp 47) rfl (by rfl) ho46 (by rfl) (HX7.out.below hb) (by simp) (by omega) hb.size ?_
          intro v8 wc ho8 hb8 hg8
          have hc := hb.trans hb8
          obtain ⟨a8, c8, rfl, _, _⟩ := ho8.rd.shape
          refine hK.out _ _ (hc) (fun _ => ?_)
          clear hK K
          (try simp only [Act.put, List.setIfInBounds_toArray, List.set_cons_zero, List.set_cons_succ])
          refine wpAnyH_ready (rs := [12]) (by kernel_rfl) (by simp) ?_
          refine stepH rfl (fun K hK => ?_) AllReadyH.nil
          go_simp
          have hfwd := below_fresh wc E3
          have hr49 := rd_3 wc
          have hd : Below w7.heap.size w7 (wc.alloc E3) := bnext hc hfwd
          have hzwd := Lib.hid (show (wc.alloc E3).heap.size = wc.heap.size + 1 from World.size_alloc _ _)
          have ho8 := ho8.below hfwd
          refine hK.out _ _ (hd) (fun _ => ?_)
          clear hK K
          (try simp only [Act.put, List.setIfInBounds_toArray, List.set_cons_zero, List.set_cons_succ])
          generalize wc.alloc E3 = wd at *
          refine wpAnyH_ready (rs := [13]) (by kernel_rfl) (by simp) ?_
          refine stepH rfl (fun K hK => ?_) AllReadyH.nil
          refine step_appGS (base := w7.heap.size) intE (by rfl) (.tmp 48) (.tmp 49) rfl (by rfl) ho8 (by rfl) hr49 (by rw [List.nil_append]; omega) (by decide) hd.size ?_
          intro v9 wy ho9 hb9 _
          have hy := hd.trans hb9
          have hr9 := ho9.rd
          obtain ⟨a9, c9, hv9, _, _⟩ := hr9.shape
          rw [len3] at hv9
          subst hv9
          refine hK.out _ _ (hy) (fun _ => ?_)
          clear hK K
          (try simp only [Act.put, List.setIfInBounds_toArray, List.set_cons_zero, List.set_cons_succ])
          refine wpAnyH_ready (rs := [14]) (by kernel_rfl) (by simp) ?_
          refine stepH rfl (fun K hK => ?_) AllReadyH.nil
          go_simp
          refine (HI2.out _ wy (HR7.out.below hy) hr9).mono ?_
          rintro e wz ⟨rfl, hb11⟩
          have hz := bnext hy hb11
          go_wp2_with fail
          refine hK.out _ _ (hz) (fun _ => ?_)
          clear hK K
          (try simp only [Act.put, List.setIfInBounds_toArray, List.set_cons_zero, List.set_cons_succ])
          refine takeH (i := 16) (v := ?_) rfl (by kernel_rfl) (by kernel_rfl) (by kernel_rfl) (fun _ _ _ h => h) (Or.inl ⟨by rfl, ?_⟩) (by assumption) ?_
          rotate_left
          · (intro w hSw; (try dsimp only at hSw); go_simp; first | done | with_reducible rfl)
          (try simp only [Act.put, List.setIfInBounds_toArray, List.set_cons_zero, List.set_cons_succ])
          refine takeH (i := 17) (v := ?_) rfl (by kernel_rfl) (by kernel_rfl) (by kernel_rfl) (fun _ _ _ h => h) (Or.inl ⟨by rfl, ?_⟩) (by assumption) ?_
          rotate_left
          · (intro w hSw; (try dsimp only at hSw); go_simp; first | done | with_reducible rfl)
          (try simp only [Act.put, List.setIfInBounds_toArray, List.set_cons_zero, List.set_cons_succ])
          refine wpAnyH_done (by kernel_rfl) ?_ _
          go_wp2
          go_meet
          exact ⟨rfl, hz⟩
        · go_simp
          have hfwc := below_fresh wb E3
          have hr49 := rd_3 wb
          have hc : Below w7.heap.size w7 (wb.alloc E3) := bnext hb hfwc
          have hzwc := Lib.hid (show (wb.alloc E3).heap.size = wb.heap.size + 1 from World.size_alloc _ _)
          have ho46 := ho46.below hfwc
          refine hK.out _ _ (hc) (fun _ => ?_)
          clear hK K
          (try simp only [Act.put, List.setIfInBounds_toArray, List.set_cons_zero, List.set_cons_succ])
          generalize wb.alloc E3 = wc at *
          refine wpAnyH_ready (rs := [11]) (by kernel_rfl) (by simp) ?_
          refine stepH rfl (fun K hK => ?_) AllReadyH.nil
          refine step_appGS (base := w7.heap.size) intE (by rfl) (.tmp 46) (.tmp 47) rfl (by rfl) ho46 (by rfl) (HX7.out.below hc) (by simp) (by omega) hc.size ?_
          intro v8 wd ho8 hb8 hg8
          have hd := hc.trans hb8
          have hr49 := RdG.grown hr49 hg8 (by have h1 := hzwb.out; simp [Value.ownBlock]; omega)
          obtain ⟨a8, c8, rfl, _, _⟩ := ho8.rd.shape
          refine hK.out _ _ (hd) (fun _ => ?_)
          clear hK K
          (try simp only [Act.put, List.setIfInBounds_toArray, List.set_cons_zero, List.set_cons_succ])
          refine wpAnyH_ready (rs := [13]) (by kernel_rfl) (by simp) ?_
          refine stepH rfl (fun K hK => ?_) AllReadyH.nil
          refine step_appGS (base := w7.heap.size) intE (by rfl) (.tmp 48) (.tmp 49) rfl (by rfl) ho8 (by rfl) hr49 (by rw [List.nil_append]; omega) (by decide) hd.size ?_
          intro v9 wy ho9 hb9 _
          have hy := hd.trans hb9
          have hr9 := ho9.rd
          obtain ⟨a9, c9, hv9, _, _⟩ := hr9.shape
          rw [len3] at hv9
          subst hv9
          refine hK.out _ _ (hy) (fun _ => ?_)
          clear hK K
          (try simp only [Act.put, List.setIfInBounds_toArray, List.set_cons_zero, List.set_cons_succ])
          refine wpAnyH_ready (rs := [14]) (by kernel_rfl) (by simp) ?_
          refine stepH rfl (fun K hK => ?_) AllReadyH.nil
          go_simp
          refine (HI2.out _ wy (HR7.out.below hy) hr9).mono ?_
          rintro e wz ⟨rfl, hb11⟩
          have hz := bnext hy hb11
          go_wp2_with fail
          refine hK.out _ _ (hz) (fun _ => ?_)
          clear hK K
          (try simp only [Act.put, List.setIfInBounds_toArray, List.set_cons_zero, List.set_cons_succ])
          refine takeH (i := 16) (v := ?_) rfl (by kernel_rfl) (by kernel_rfl) (by kernel_rfl) (fun _ _ _ h => h) (Or.inl ⟨by rfl, ?_⟩) (by assumption) ?_
          rotate_left
          · (intro w hSw; (try dsimp only at hSw); go_simp; first | done | with_reducible rfl)
          (try simp only [Act.put, List.setIfInBounds_toArray, List.set_cons_zero, List.set_cons_succ])
          refine takeH (i := 17) (v := ?_) rfl (by kernel_rfl) (by kernel_rfl) (by kernel_rfl) (fun _ _ _ h => h) (Or.inl ⟨by rfl, ?_⟩) (by assumption) ?_
          rotate_left
          · (intro w hSw; (try dsimp only at hSw); go_simp; first | done | with_reducible rfl)
          (try simp only [Act.put, List.setIfInBounds_toArray, List.set_cons_zero, List.set_cons_succ])
          refine wpAnyH_done (by kernel_rfl) ?_ _
          go_wp2
          go_meet
          exact ⟨rfl, hz⟩
      · go_simp
        have hfwb := below_fresh we E3
        have hr49 := rd_3 we
        have hb : Below w7.heap.size w7 (we.alloc E3) := bnext he hfwb
        have hzwb := Lib.hid (show (we.alloc E3).heap.size = we.heap.size + 1 from World.size_alloc _ _)
        refine hK.out _ _ (hb) (fun _ => ?_)
        clear hK K
        (try simp only [Act.put, List.setIfInBounds_toArray, List.set_cons_zero, List.set_cons_succ])
        generalize we.alloc E3 = wb at *
        refine wpAnyH_ready (rs := [9]) (by kernel_rfl) (by simp) ?_
        refine stepH rfl (fun K hK => ?_) AllReadyH.nil
        go_simp
        have hfwc := below_fresh wb E0
        have ho46 : OwnI w7.heap.size (wb.alloc E0) (.slice (some ⟨wb.heap.size, 0, none⟩) 0 0) [] := (own_0 wb).mono hb.size
        have hc : Below w7.heap.size w7 (wb.alloc E0) := bnext hb hfwc
        have hzwc := Lib.hid (show (wb.alloc E0).heap.size = wb.heap.size + 1 from World.size_alloc _ _)
        have hr49 := hr49.below hfwc
        refine hK.out _ _ (hc) (fun _ => ?_)
        clear hK K
        (try simp only [Act.put, List.setIfInBounds_toArray, List.set_cons_zero, List.set_cons_succ])
        generalize wb.alloc E0 = wc at *
        refine wpAnyH_ready (rs := [11]) (by kernel_rfl) (by simp) ?_
        refine stepH rfl (fun K hK => ?_) AllReadyH.nil
        refine step_appGS (base := w7.heap.size) intE (by rfl) (.tmp 46) (.tmp 47) rfl (by rfl) ho46 (by rfl) (HX7.out.below hc) (by simp) (by omega) hc.size ?_
        intro v8 wd ho8 hb8 hg8
        have hd := hc.trans hb8
        have hr49 := RdG.grown hr49 hg8 (by have h1 := hzwb.out; simp [Value.ownBlock]; omega)
        obtain ⟨a8, c8, rfl, _, _⟩ := ho8.rd.shape
        refine hK.out _ _ (hd) (fun _ => ?_)
        clear hK K
        (try simp only [Act.put, List.setIfInBounds_toArray, List.set_cons_zero, List.set_cons_succ])
        refine wpAnyH_ready (rs := [13]) (by kernel_rfl) (by simp) ?_
        refine stepH rfl (fun K hK => ?_) AllReadyH.nil
        refine step_appGS (base := w7.heap.size) intE (by rfl) (.tmp 48) (.tmp 49) rfl (by rfl) ho8 (by rfl) hr49 (by rw [List.nil_append]; omega) (by decide) hd.size ?_
        intro v9 wy ho9 hb9 _
        have hy := hd.trans hb9
        have hr9 := ho9.rd
        obtain ⟨a9, c9, hv9, _, _⟩ := hr9.shape
        rw [len3] at hv9
        subst hv9
        refine hK.out _ _ (hy) (fun _ => ?_)
        clear hK K
        (try simp only [Act.put, List.setIfInBounds_toArray, List.set_cons_zero, List.set_cons_succ])
        refine wpAnyH_ready (rs := [14]) (by kernel_rfl) (by simp) ?_
        refine stepH rfl (fun K hK => ?_) AllReadyH.nil
        go_simp
        refine (HI2.out _ wy (HR7.out.below hy) hr9).mono ?_
        rintro e wz ⟨rfl, hb11⟩
        have hz := bnext hy hb11
        go_wp2_with fail
        refine hK.out _ _ (hz) (fun _ => ?_)
        clear hK K
        (try simp only [Act.put, List.setIfInBounds_toArray, List.set_cons_zero, List.set_cons_succ])
        refine takeH (i := 16) (v := ?_) rfl (by kernel_rfl) (by kernel_rfl) (by kernel_rfl) (fun _ _ _ h => h) (Or.inl ⟨by rfl, ?_⟩) (by assumption) ?_
        rotate_left
        · (intro w hSw; (try dsimp only at hSw); go_simp; first | done | with_reducible rfl)
        (try simp only [Act.put, List.setIfInBounds_toArray, List.set_cons_zero, List.set_cons_succ])
        refine takeH (i := 17) (v := ?_) rfl (by kernel_rfl) (by kernel_rfl) (by kernel_rfl) (fun _ _ _ h => h) (Or.inl ⟨by rfl, ?_⟩) (by assumption) ?_
        rotate_left
        · (intro w hSw; (try dsimp only at hSw); go_simp; first | done | with_reducible rfl)
        (try simp only [Act.put, List.setIfInBounds_toArray, List.set_cons_zero, List.set_cons_succ])
        refine wpAnyH_done (by kernel_rfl) ?_ _
        go_wp2
        go_meet
        exact ⟨rfl, hz⟩
  case rest =>
    obtain ⟨rfl, hbx⟩ := hcut
    have HRC := Lib.hid (HR7.out.below hbx.out)
    have HVC := Lib.hid (HV7.out.below hbx.out)
    have HXC := Lib.hid (HX7.out.below hbx.out)
    have HBC := Lib.hid (bnext HB7.out hbx.out)
    clear HR7 HV7 HX7 HB7 HO7 HI1 HI2 hbx
    obtain ⟨x0, x1, x2, x3, x4⟩ := HVC.out
    go_wp2_with fail
    refine (HMI.out _ HRC.out).mono ?_
    rintro e wm ⟨vm, ls, rfl, hrd, hmn, hbm⟩
    obtain ⟨am, cm, rfl, hcm, hlm⟩ := hrd.shape
    have HRD := Lib.hid hrd
    have HXM := Lib.hid (HXC.out.below hbm)
    have HBM := Lib.hid (bnext HBC.out hbm)
    have HFN := Lib.hid (HFI.out ls hmn)
    clear HRC HVC HXC HBC hrd hmn hbm HMI HFI x0 x1 x2 x3 x4
    go_wp2
    go_loopw [12, 14] (fun u i wr => ∃ (j : Nat) (b : Bool), j ≤ ls.length ∧ i = .int .i64 j ∧ u = .bool b ∧ Hid (b = (ls.take j).any fun r => r.all fun x => decide (x ∈ xs)) ∧ Hid (Below wm.heap.size wm wr)) (fun _ i _ => ls.length - (intOf i).toNat)
    case atStart => exact ⟨0, false, Nat.zero_le _, rfl, rfl, rfl, Below.refl _ _⟩
    case round =>
      obtain ⟨j, fb, hj, rfl, rfl, hfb, hb⟩ := hrel
      by_cases hlt : j < ls.length
      · have hq : (j : Int) < (ls.length : Int) := by omega
        obtain ⟨l, hg⟩ : ∃ l, ls[j]? = some l := ⟨_, List.getElem?_eq_getElem hlt⟩
        have HG := Lib.hid hg
        have HAS := Lib.hid (any_succ hg fun r => r.all fun x => decide (x ∈ xs))
        rw [← hfb.out] at HAS
        clear hg hfb
        go_wp2
        go_loopw [15, 16] (fun u i wr => ∃ (k : Nat) (b : Bool), k ≤ l.length ∧ i = .int .i64 k ∧ u = .bool b ∧ Hid (b = (l.take k).all fun x => decide (x ∈ xs)) ∧ Hid (Below wm.heap.size wm wr)) (fun _ i _ => l.length - (intOf i).toNat)
        case atStart => exact ⟨0, true, Nat.zero_le _, rfl, rfl, rfl, hb.out⟩
        case round =>
          obtain ⟨k, ib, hk, rfl, rfl, hib, hb2⟩ := hrel
          clear hb
          obtain ⟨b1, o1, u1, hi1, hb1, c1, hr1⟩ := (HRD.out.below hb2.out).at_ j l HG.out
          obtain ⟨a1, k1, rfl, hk1, hl1⟩ := hr1.shape
          by_cases hlt2 : k < l.length
          · have hq2 : (k : Int) < (l.length : Int) := by omega
            obtain ⟨x, hgx⟩ : ∃ x, l[k]? = some x := ⟨_, List.getElem?_eq_getElem hlt2⟩
            obtain ⟨b3, o3, hi3, hb3, c3⟩ := atI hr1 k x hgx
            have hall := all_succ hgx fun x => decide (x ∈ xs)
            rw [← hib.out] at hall
            have hcall := rIn (.slice a2 xs.length c2) xs x wr (HXM.out.below hb2.out)
            generalize decide (x ∈ xs) = d at hall hcall
            have HCL := Lib.hid hcall
            have HAL := Lib.hid hall
            clear hr1 hgx hib hall hcall
            cases ib
            · go_wp2
              go_round
              case rel => exact ⟨k + 1, false, by omega, by go_num, rfl, HAL.out.symm, hb2⟩
              case measure => simp [intOf]; omega
            · go_wp2_with fail
              refine HCL.out.mono ?_
              rintro e w9 ⟨rfl, rfl⟩
              go_wp2
              go_round
              case rel => exact ⟨k + 1, d, by omega, by go_num, rfl, HAL.out.symm, hb2⟩
              case measure => simp [intOf]; omega
          · have hq2 : ¬ (k : Int) < (l.length : Int) := by omega
            have HN := Lib.hid (show (fb || ib) = (ls.take (j + 1)).any fun r => r.all fun x => decide (x ∈ xs) by
              rw [HAS.out, hib.out, List.take_of_length_le (by omega)])
            clear hr1 hib HAS
            cases fb
            · go_wp2
              go_round
              case rel => exact ⟨j + 1, ib, by omega, by go_num, rfl, HN.out, hb2⟩
              case measure => simp [intOf]; omega
            · go_wp2
              go_round
              case rel => exact ⟨j + 1, true, by omega, by go_num, rfl, HN.out, hb2⟩
              case measure => simp [intOf]; omega
      · have hq : ¬ (j : Int) < (ls.length : Int) := by omega
        have hfq : fb = q0 := by rw [hfb.out, List.take_of_length_le (by omega), HFN.out]
        subst hfq
        have hqq : (fb == fb) = true := by simp
        clear hfb HFN
        go_wp2_with fail
        refine (HA.out _).mono ?_
        rintro e w9 ⟨rfl, hb9⟩
        have HB9 := Lib.hid (bnext (bnext HBM.out hb.out) hb9)
        clear hb9
        go_wp2
        go_ret
        exact ⟨rfl, HB9.out⟩

end Go.Proofs.Ytbbgjckiooejhaa
