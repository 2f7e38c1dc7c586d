/-
  The calls of Validate, the program's: it returns the error that the plain mathematics says. No conditions beyond that the summary reads.
-/
import Derived.Test.YtkaafbdhgekeeaaGreatMVe
import Derived.Deep.RegionHeld3
namespace Go.Proofs.YtkaafbdhgekeeaaGreat
open Go.RowKit
open MM (Mem Ent Sm Tri)

theorem gm_rule : Tryz.prog.eqGuardType Tryz.prog.depth 24 = false := by kernel_rfl
theorem gm_org : Tryz.prog.eqGuardType Tryz.prog.depth 78 = false := by kernel_rfl
theorem gm_wgt : Tryz.prog.eqGuardType Tryz.prog.depth 62 = false := by kernel_rfl
theorem gm_mem : Tryz.prog.eqGuardType Tryz.prog.depth 48 = false := by kernel_rfl
theorem ite3 {α : Type} (k c f : Int) (p q : α) : (if k = 0 then (if c = 0 then (if f = 0 then p else q) else q) else q) = if decide (k = 0 ∧ c = 0 ∧ f = 0) = true then p else q := by
  by_cases h1 : k = 0 <;> by_cases h2 : c = 0 <;> by_cases h3 : f = 0 <;> simp [h1, h2, h3]
/-- A summary in a block, its fields by name. -/
def B9 (w : World) (B : Nat) (x y z : Value) (k c f v a n : Int) : Prop :=
  B < w.heap.size ∧ w.cell? ⟨B, 0, none⟩ = some x ∧ w.cell? ⟨B, 1, none⟩ = some y ∧ w.cell? ⟨B, 2, none⟩ = some z ∧ w.cell? ⟨B, 3, none⟩ = some (.int .i64 k) ∧ w.cell? ⟨B, 4, none⟩ = some (.int .i64 c) ∧
    w.cell? ⟨B, 5, none⟩ = some (.int .i64 f) ∧ w.cell? ⟨B, 6, none⟩ = some (.int .i64 v) ∧ w.cell? ⟨B, 7, none⟩ = some (.int .i64 a) ∧ w.cell? ⟨B, 8, none⟩ = some (.int .i64 n)
theorem B9.below {w w' : World} {B : Nat} {x y z : Value} {k c f v a n : Int} (h : B9 w B x y z k c f v a n) (hb : Below w.heap.size w w') : B9 w' B x y z k c f v a n := by
  obtain ⟨h0, h1, h2, h3, h4, h5, h6, h7, h8, h9⟩ := h
  exact ⟨Nat.lt_of_lt_of_le h0 hb.size, below_cell hb h1, below_cell hb h2, below_cell hb h3, below_cell hb h4, below_cell hb h5, below_cell hb h6, below_cell hb h7, below_cell hb h8, below_cell hb h9⟩
theorem B9.fresh (w : World) (t : TypeId) (x y z : Value) (k c f v a n : Int) : B9 (w.alloc (.cells #[x, y, z, .int .i64 k, .int .i64 c, .int .i64 f, .int .i64 v, .int .i64 a, .int .i64 n] t)) w.heap.size x y z k c f v a n :=
  ⟨by simp, by simp [World.cell?_alloc_new], by simp [World.cell?_alloc_new], by simp [World.cell?_alloc_new], by simp [World.cell?_alloc_new], by simp [World.cell?_alloc_new], by simp [World.cell?_alloc_new], by simp [World.cell?_alloc_new], by simp [World.cell?_alloc_new], by simp [World.cell?_alloc_new]⟩

set_option maxRecDepth 100000 in
set_option maxHeartbeats 4000000 in
theorem cValRuleS (x y z : Value) (s : Sm) (w : World) :
    Calls Tryz.prog 43 #[sv x y z s.k s.c s.f s.v s.a s.n] w fun e w' => e = .returned (.int .i64 (MM.errZ s)) ∧ Below w.heap.size w w' := by
  obtain ⟨J, R', W, k, c, f, v, a, n⟩ := s
  have hB := below_fresh w (.cells #[x, y, z, .int .i64 k, .int .i64 c, .int .i64 f, .int .i64 v, .int .i64 a, .int .i64 n] 37)
  have hP := B9.fresh w 37 x y z k c f v a n
  have hZ : MM.errZ ⟨J, R', W, k, c, f, v, a, n⟩ = (if (decide (k = 0 ∧ c = 0 ∧ f = 0)) = false ∧ JM.errR k c f ≠ 0 then JM.errR k c f
      else if MM.neg (v, a, n) = true ∨ (decide (k = 0 ∧ c = 0 ∧ f = 0) = true ∧ decide (v = 0 ∧ a = 0 ∧ n = 0) = false) then 9 else 0) := by
    unfold MM.errZ MM.rz MM.tri
    simp
  rw [hZ]
  show Calls Tryz.prog 43 #[sv x y z k c f v a n] w _
  clear hZ
  generalize hw1 : w.alloc (.cells #[x, y, z, .int .i64 k, .int .i64 c, .int .i64 f, .int .i64 v, .int .i64 a, .int .i64 n] 37) = w1 at hB hP
  have hR1 : True := trivial
  have hO1 := fun w => neq_org v a n 0 0 0 w
  obtain ⟨zb, hzb⟩ : ∃ zb, decide (k = 0 ∧ c = 0 ∧ f = 0) = zb := ⟨_, rfl⟩
  rw [hzb]
  have HZB := Lib.hid hzb
  clear hzb hR1
  generalize decide (v = 0 ∧ a = 0 ∧ n = 0) = tb at hO1 ⊢
  have hV := fun w => cValRule k c f w
  generalize JM.errR k c f = er at hV ⊢
  have hN := fun w => cNeg v a n w
  generalize MM.neg (v, a, n) = ng at hN ⊢
  obtain ⟨R, hR⟩ : ∃ R, R = (if zb = false ∧ er ≠ 0 then er else if ng = true ∨ (zb = true ∧ tb = false) then 9 else 0) := ⟨_, rfl⟩
  rw [← hR]
  have HR := Lib.hid hR
  clear hR
  have HO := Lib.hid (fun w => cRuleOrigin x y z k c f v a n w)
  have HO1 := Lib.hid hO1
  have HV := Lib.hid hV
  have HN := Lib.hid hN
  have HB := Lib.hid hB
  have HP := Lib.hid hP
  have HW := Lib.hid hw1
  have hat : ∀ w', Below w1.heap.size w1 w' → B9 w' w.heap.size x y z k c f v a n := fun w' hb => HP.out.below hb
  have HAT := Lib.hid hat
  clear hO1 hV hN hB hP hw1 hat
  go_enter Tryz.func43, Tryz.ntmps43
  go_wp2
  rw [HW.out]
  refine wp_region_held_drew (S := fun w' => Below w1.heap.size w1 w') (by kernel_rfl) ((Below.refl _ _).drew) (fun ha => ?_)
  replace ha : Below w1.heap.size w1 w1.drew := (Below.refl _ _).drew
  generalize w1.drew = wa at ha ⊢
  refine takeH (i := 2) (v := ?_) rfl (by kernel_rfl) (by kernel_rfl) (by kernel_rfl) (fun _ _ _ h => h) (Or.inl ⟨by rfl, ?_⟩) (by assumption) ?_
  rotate_left
  · (intro w hSw; (try dsimp only at hSw); go_simp; first | done | with_reducible rfl)
  (try simp only [Act.put, List.setIfInBounds_toArray, List.set_cons_zero, List.set_cons_succ])
  refine takeH (i := 4) (v := ?_) rfl (by kernel_rfl) (by kernel_rfl) (by kernel_rfl) (fun _ _ _ h => h) (Or.inl ⟨by rfl, ?_⟩) (by assumption) ?_
  rotate_left
  · (intro w hSw; (try dsimp only at hSw); go_simp; first | done | with_reducible rfl)
  (try simp only [Act.put, List.setIfInBounds_toArray, List.set_cons_zero, List.set_cons_succ])
  refine takeH (i := 0) (v := ?_) rfl (by kernel_rfl) (by kernel_rfl) (by kernel_rfl) (fun _ _ _ h => h) (Or.inl ⟨by rfl, ?_⟩) (by assumption) ?_
  rotate_left
  · (intro w hSw; (try dsimp only at hSw); obtain ⟨_, p0, p1, p2, p3, p4, p5, p6, p7, p8⟩ := HAT.out w hSw; go_simp; first | done | with_reducible rfl)
  (try simp only [Act.put, List.setIfInBounds_toArray, List.set_cons_zero, List.set_cons_succ])
  refine takeH (i := 3) (v := ?_) rfl (by kernel_rfl) (by kernel_rfl) (by kernel_rfl) (fun _ _ _ h => h) (Or.inl ⟨by rfl, ?_⟩) (by assumption) ?_
  rotate_left
  · (intro w hSw; (try dsimp only at hSw); obtain ⟨_, p0, p1, p2, p3, p4, p5, p6, p7, p8⟩ := HAT.out w hSw; go_simp; first | done | with_reducible rfl)
  (try simp only [Act.put, List.setIfInBounds_toArray, List.set_cons_zero, List.set_cons_succ])
  refine takeH (i := 5) (v := .bool (!zb)) rfl (by kernel_rfl) (by kernel_rfl) (by kernel_rfl) (fun _ _ _ h => h) (Or.inl ⟨by rfl, ?_⟩) (by assumption) ?_
  · intro w hSw
    go_simp
    rw [ite3, HZB.out]
    cases zb <;> rfl
  (try simp only [Act.put, List.setIfInBounds_toArray, List.set_cons_zero, List.set_cons_succ])
  refine wpAnyH_ready (rs := [1, 6]) (by kernel_rfl) (by simp) ?_
  refine stepH rfl (fun K hK => ?_) (stepH rfl (fun K hK => ?_) AllReadyH.nil)
  focus
    go_simp
    refine (HO.out wa).mono ?_
    rintro e wb ⟨rfl, hq⟩
    have hb := bnext ha hq
    go_wp2_with fail
    refine hK.out _ _ (hb) (fun _ => ?_)
    clear hK K
    (try simp only [Act.put, List.setIfInBounds_toArray, List.set_cons_zero, List.set_cons_succ])
    refine wpAnyH_ready (rs := [6]) (by kernel_rfl) (by simp) ?_
    refine stepH rfl (fun K hK => ?_) AllReadyH.nil
    go_simp
    have hc := bnext hb (below_fresh _ (.cells #[.int .i64 0, .int .i64 0, .int .i64 0] 78))
    have hz := heap_alloc_new wb (.cells #[.int .i64 0, .int .i64 0, .int .i64 0] 78)
    refine hK.out _ _ (hc) (fun _ => ?_)
    clear hK K
    (try simp only [Act.put, List.setIfInBounds_toArray, List.set_cons_zero, List.set_cons_succ])
    obtain ⟨wc , hwc ⟩ : ∃ wc , (wb).alloc (.cells #[.int .i64 0, .int .i64 0, .int .i64 0] 78) = wc  := ⟨_, rfl⟩
    rw [hwc ] at hc hz ⊢
    clear hwc 
    have hgl := hb.size
    generalize wb.heap.size = g at hz hgl ⊢
    clear hq hb
  rotate_left
  focus
    go_simp
    have hb := bnext ha (below_fresh _ (.cells #[.int .i64 0, .int .i64 0, .int .i64 0] 78))
    have hz := heap_alloc_new wa (.cells #[.int .i64 0, .int .i64 0, .int .i64 0] 78)
    refine hK.out _ _ (hb) (fun _ => ?_)
    clear hK K
    (try simp only [Act.put, List.setIfInBounds_toArray, List.set_cons_zero, List.set_cons_succ])
    obtain ⟨wb , hwb ⟩ : ∃ wb , (wa).alloc (.cells #[.int .i64 0, .int .i64 0, .int .i64 0] 78) = wb  := ⟨_, rfl⟩
    rw [hwb ] at hb hz ⊢
    clear hwb 
    refine wpAnyH_ready (rs := [1]) (by kernel_rfl) (by simp) ?_
    refine stepH rfl (fun K hK => ?_) AllReadyH.nil
    go_simp
    refine (HO.out wb).mono ?_
    rintro e wc ⟨rfl, hq⟩
    have hc := bnext hb hq
    go_wp2_with fail
    refine hK.out _ _ (hc) (fun _ => ?_)
    clear hK K
    (try simp only [Act.put, List.setIfInBounds_toArray, List.set_cons_zero, List.set_cons_succ])
    replace hz := below_block hz hq
    have hgl := ha.size
    generalize wa.heap.size = g at hz hgl ⊢
    clear hq hb
  all_goals
    obtain ⟨⟨z0, z1, z2⟩, f0, f1, f2⟩ := row3_at hz
    have hput := row3_put hz (.int .i64 v) (.int .i64 a) (.int .i64 n) w1.heap.size hgl
    have hd := hc.trans hput.2
    refine wpAnyH_ready (rs := [7]) (by kernel_rfl) (by simp) ?_
    refine stepH rfl (fun K hK => ?_) AllReadyH.nil
    go_simp
    skip
    refine hK.out _ _ (hd) (fun _ => ?_)
    clear hK K
    (try simp only [Act.put, List.setIfInBounds_toArray, List.set_cons_zero, List.set_cons_succ])
    generalize ((wc.setCell ⟨g, 0, none⟩ (.int .i64 v)).setCell ⟨g, 1, none⟩ (.int .i64 a)).setCell ⟨g, 2, none⟩ (.int .i64 n) = wd at hd hput ⊢
    clear z0 z1 z2 f0 f1 f2 hz
    refine takeH (i := 8) (v := ?_) rfl (by kernel_rfl) (by kernel_rfl) (by kernel_rfl) (fun _ _ _ h => h) (Or.inl ⟨by rfl, ?_⟩) (by assumption) ?_
    rotate_left
    · (intro w hSw; (try dsimp only at hSw); go_simp; first | done | with_reducible rfl)
    (try simp only [Act.put, List.setIfInBounds_toArray, List.set_cons_zero, List.set_cons_succ])
    refine wpAnyH_done (by kernel_rfl) ?_ _
    obtain ⟨_, p0, p1, p2, p3, p4, p5, p6, p7, p8⟩ := HAT.out wd hd
    have HD := Lib.hid hd
    have HPD := Lib.hid hput.1
    clear hput hc hd
    go_wp2_with fail
    refine (HV.out _).mono ?_
    rintro e we ⟨rfl, hbe⟩
    have HBE := Lib.hid (bnext (HB.out.trans (HD.out.mono HB.out.size)) hbe)
    have hblk : we.heap[g]? = some (.cells #[.int .i64 v, .int .i64 a, .int .i64 n] 78 (0, 0)) := below_block HPD.out hbe
    obtain ⟨⟨q0, q1, q2⟩, _, _, _⟩ := row3_at hblk
    clear p0 p1 p2 p3 p4 p5 p6 p7 p8 hbe hblk
    cases zb
    · by_cases he : er = 0
      · subst he
        cases ng
        all_goals
          go_wp2_with fail
          refine (HN.out _).mono ?_
          rintro e wf ⟨rfl, hbf⟩
          have HBF := Lib.hid (bnext HBE.out hbf)
          clear hbf
          go_wp2
          go_ret
          rw [HR.out]
          exact ⟨ret_int (by simp), HBF.out⟩
      · have hne : (er != 0) = true := bne_t he
        go_wp2
        go_ret
        rw [HR.out]
        exact ⟨ret_int (by simp [he]), HBE.out⟩
    · cases ng
      · have hm := gm_org
        have hno := HO1.out
        cases tb
        all_goals
          go_wp2_with fail
          refine (HN.out _).mono ?_
          rintro e wf ⟨rfl, hbf⟩
          have HBF := Lib.hid (bnext HBE.out hbf)
          replace q0 := below_cell hbf q0
          replace q1 := below_cell hbf q1
          replace q2 := below_cell hbf q2
          clear hbf
          go_wp2
          go_ret
          rw [HR.out]
          exact ⟨ret_int (by simp), HBF.out⟩
      · go_wp2_with fail
        refine (HN.out _).mono ?_
        rintro e wf ⟨rfl, hbf⟩
        have HBF := Lib.hid (bnext HBE.out hbf)
        clear hbf
        go_wp2
        go_ret
        rw [HR.out]
        exact ⟨ret_int (by simp), HBF.out⟩

theorem rd3e (w : World) (x y z : Int) : RdI (w.alloc (.cells #[.int .i64 x, .int .i64 y, .int .i64 z] 29)) (.slice (some ⟨w.heap.size, 0, none⟩) 3 3) [x, y, z] := (ownG_fresh hlI 29 w [x, y, z] (by unfold maxLen; simp)).rd
set_option maxRecDepth 100000 in
set_option maxHeartbeats 4000000 in
theorem cValSum (x : Value) (s : Sm) (w : World) (h : RdS w x s) :
    Calls Tryz.prog 18 #[x] w fun e w' => e = .returned (.int .i64 (MM.errS s)) ∧ Below w.heap.size w w' := by
  obtain ⟨vj, vr, vw', rfl, hj, hr, hw⟩ := h
  have hV := fun w => cValRuleS vj vr vw' s w
  obtain ⟨J, R', W, k, c, f, v, a, n⟩ := s
  have hB := below_fresh w (.cells #[vj, vr, vw', .int .i64 k, .int .i64 c, .int .i64 f, .int .i64 v, .int .i64 a, .int .i64 n] 37)
  have hP := B9.fresh w 37 vj vr vw' k c f v a n
  dsimp only at hj hr hw hV ⊢
  have hor : MM.errS ⟨J, R', W, k, c, f, v, a, n⟩ = orL [MM.errL J R', MM.errW 0 W, MM.errZ ⟨J, R', W, k, c, f, v, a, n⟩] := by
    unfold MM.errS MM.or2 orL orL orL orL
    by_cases h1 : MM.errL J R' = 0 <;> by_cases h2 : MM.errW 0 W = 0 <;> by_cases h3 : MM.errZ ⟨J, R', W, k, c, f, v, a, n⟩ = 0 <;> simp [h1, h2, h3]
  rw [hor]
  clear hor
  generalize hw1 : w.alloc (.cells #[vj, vr, vw', .int .i64 k, .int .i64 c, .int .i64 f, .int .i64 v, .int .i64 a, .int .i64 n] 37) = w1 at hB hP
  have HS := Lib.hid (fun w (h1 : RdI w vj J) (h2 : RdI w vr R') => cValServers vj vr J R' w h1 h2)
  have HW := Lib.hid (fun w (h1 : RdW w vw' W) => cValWeights vw' W w h1)
  have HV := Lib.hid hV
  have HJ := Lib.hid (hj.below hB)
  have HR := Lib.hid (hr.below hB)
  have HE := Lib.hid (hw.below hB)
  have HO := Lib.hid (fun v xs w (h : RdI w v xs) => cOrE v xs w h)
  clear hV hj hr hw
  generalize MM.errL J R' = E1 at HS ⊢
  generalize MM.errW 0 W = E2 at HW ⊢
  generalize MM.errZ ⟨J, R', W, k, c, f, v, a, n⟩ = E3 at HV ⊢
  have HB := Lib.hid hB
  have HP := Lib.hid hP
  have HW1 := Lib.hid hw1
  clear hB hP hw1
  go_enter Tryz.func18, Tryz.ntmps18
  go_wp2
  rw [HW1.out]
  refine wp_region_held_drew (S := fun w' => Below w1.heap.size w1 w') (by kernel_rfl) ((Below.refl _ _).drew) (fun ha => ?_)
  replace ha : Below w1.heap.size w1 w1.drew := (Below.refl _ _).drew
  generalize w1.drew = wa at ha ⊢
  refine takeH (i := 0) (v := ?_) rfl (by kernel_rfl) (by kernel_rfl) (by kernel_rfl) (fun _ _ _ h => h) (Or.inl ⟨by rfl, ?_⟩) (by assumption) ?_
  rotate_left
  · (intro w hSw; (try dsimp only at hSw); go_simp; first | done | with_reducible rfl)
  (try simp only [Act.put, List.setIfInBounds_toArray, List.set_cons_zero, List.set_cons_succ])
  refine takeH (i := 2) (v := ?_) rfl (by kernel_rfl) (by kernel_rfl) (by kernel_rfl) (fun _ _ _ h => h) (Or.inl ⟨by rfl, ?_⟩) (by assumption) ?_
  rotate_left
  · (intro w hSw; (try dsimp only at hSw); go_simp; first | done | with_reducible rfl)
  (try simp only [Act.put, List.setIfInBounds_toArray, List.set_cons_zero, List.set_cons_succ])
  refine takeH (i := 5) (v := ?_) rfl (by kernel_rfl) (by kernel_rfl) (by kernel_rfl) (fun _ _ _ h => h) (Or.inl ⟨by rfl, ?_⟩) (by assumption) ?_
  rotate_left
  · (intro w hSw; (try dsimp only at hSw); go_simp; first | done | with_reducible rfl)
  (try simp only [Act.put, List.setIfInBounds_toArray, List.set_cons_zero, List.set_cons_succ])
  refine takeH (i := 1) (v := ?_) rfl (by kernel_rfl) (by kernel_rfl) (by kernel_rfl) (fun _ _ _ h => h) (Or.inl ⟨by rfl, ?_⟩) (by assumption) ?_
  rotate_left
  · (intro w hSw; (try dsimp only at hSw); obtain ⟨_, p0, p1, p2, p3, p4, p5, p6, p7, p8⟩ := HP.out.below hSw; go_simp; first | done | with_reducible rfl)
  (try simp only [Act.put, List.setIfInBounds_toArray, List.set_cons_zero, List.set_cons_succ])
  refine takeH (i := 3) (v := ?_) rfl (by kernel_rfl) (by kernel_rfl) (by kernel_rfl) (fun _ _ _ h => h) (Or.inl ⟨by rfl, ?_⟩) (by assumption) ?_
  rotate_left
  · (intro w hSw; (try dsimp only at hSw); obtain ⟨_, p0, p1, p2, p3, p4, p5, p6, p7, p8⟩ := HP.out.below hSw; go_simp; first | done | with_reducible rfl)
  (try simp only [Act.put, List.setIfInBounds_toArray, List.set_cons_zero, List.set_cons_succ])
  refine takeH (i := 6) (v := ?_) rfl (by kernel_rfl) (by kernel_rfl) (by kernel_rfl) (fun _ _ _ h => h) (Or.inl ⟨by rfl, ?_⟩) (by assumption) ?_
  rotate_left
  · (intro w hSw; (try dsimp only at hSw); obtain ⟨_, p0, p1, p2, p3, p4, p5, p6, p7, p8⟩ := HP.out.below hSw; go_simp; first | done | with_reducible rfl)
  (try simp only [Act.put, List.setIfInBounds_toArray, List.set_cons_zero, List.set_cons_succ])
  refine takeH (i := 8) (v := ?_) rfl (by kernel_rfl) (by kernel_rfl) (by kernel_rfl) (fun _ _ _ h => h) (Or.inl ⟨by rfl, ?_⟩) (by assumption) ?_
  rotate_left
  · (intro w hSw; (try dsimp only at hSw); obtain ⟨_, p0, p1, p2, p3, p4, p5, p6, p7, p8⟩ := HP.out.below hSw; go_simp; first | done | with_reducible rfl)
  (try simp only [Act.put, List.setIfInBounds_toArray, List.set_cons_zero, List.set_cons_succ])
  refine wpAnyH_ready (rs := [4]) (by kernel_rfl) (by simp) ?_
  refine stepH rfl (fun K hK => ?_) AllReadyH.nil
  go_simp
  refine (HS.out wa (HJ.out.below ha) (HR.out.below ha)).mono ?_
  rintro e wb ⟨rfl, hq⟩
  have hb := bnext ha hq
  go_wp2_with fail
  refine hK.out _ _ (hb) (fun _ => ?_)
  clear hK K
  (try simp only [Act.put, List.setIfInBounds_toArray, List.set_cons_zero, List.set_cons_succ])
  refine wpAnyH_ready (rs := [7]) (by kernel_rfl) (by simp) ?_
  refine stepH rfl (fun K hK => ?_) AllReadyH.nil
  go_simp
  refine (HW.out wb (HE.out.below hb)).mono ?_
  rintro e wc ⟨rfl, hq⟩
  have hc := bnext hb hq
  go_wp2_with fail
  refine hK.out _ _ (hc) (fun _ => ?_)
  clear hK K
  (try simp only [Act.put, List.setIfInBounds_toArray, List.set_cons_zero, List.set_cons_succ])
  refine wpAnyH_ready (rs := [9]) (by kernel_rfl) (by simp) ?_
  refine stepH rfl (fun K hK => ?_) AllReadyH.nil
  go_simp
  refine (HV.out wc).mono ?_
  rintro e wd ⟨rfl, hq⟩
  have hd := bnext hc hq
  go_wp2_with fail
  refine hK.out _ _ (hd) (fun _ => ?_)
  clear hK K
  (try simp only [Act.put, List.setIfInBounds_toArray, List.set_cons_zero, List.set_cons_succ])
  refine wpAnyH_ready (rs := [10]) (by kernel_rfl) (by simp) ?_
  refine stepH rfl (fun K hK => ?_) AllReadyH.nil
  go_simp
  have he := bnext hd (below_fresh _ (.cells #[.int .i64 E1, .int .i64 E2, .int .i64 E3] 29))
  have hrd := rd3e wd E1 E2 E3
  refine hK.out _ _ (he) (fun _ => ?_)
  clear hK K
  (try simp only [Act.put, List.setIfInBounds_toArray, List.set_cons_zero, List.set_cons_succ])
  obtain ⟨we , hwe ⟩ : ∃ we , (wd).alloc (.cells #[.int .i64 E1, .int .i64 E2, .int .i64 E3] 29) = we  := ⟨_, rfl⟩
  rw [hwe ] at he hrd ⊢
  clear hwe 
  refine wpAnyH_ready (rs := [11]) (by kernel_rfl) (by simp) ?_
  refine stepH rfl (fun K hK => ?_) AllReadyH.nil
  go_simp
  refine (HO.out _ _ we hrd).mono ?_
  rintro e wf ⟨rfl, rfl⟩
  go_wp2_with fail
  refine hK.out _ _ (he) (fun _ => ?_)
  clear hK K
  (try simp only [Act.put, List.setIfInBounds_toArray, List.set_cons_zero, List.set_cons_succ])
  refine takeH (i := 12) (v := ?_) rfl (by kernel_rfl) (by kernel_rfl) (by kernel_rfl) (fun _ _ _ h => h) (Or.inl ⟨by rfl, ?_⟩) (by assumption) ?_
  rotate_left
  · (intro w hSw; (try dsimp only at hSw); go_simp; first | done | with_reducible rfl)
  (try simp only [Act.put, List.setIfInBounds_toArray, List.set_cons_zero, List.set_cons_succ])
  refine wpAnyH_done (by kernel_rfl) ?_ _
  have HF := Lib.hid (HB.out.trans (he.mono HB.out.size))
  clear ha hb hc hd he hrd
  go_wp2
  go_ret
  exact ⟨rfl, HF.out⟩

end Go.Proofs.YtkaafbdhgekeeaaGreat
