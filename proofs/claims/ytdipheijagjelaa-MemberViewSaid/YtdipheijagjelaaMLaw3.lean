/-
  The law MemberView: it returns true. Conditions: what came in reads.
-/
import Derived.Test.YtdipheijagjelaaMLaw1
import Derived.Test.YtdipheijagjelaaMRVw
namespace Go.Proofs.Ytdipheijagjelaa
open Go.RowKit Go.Joins
open MM (Mem Ent Sm Tri)

theorem val_of {g : Int → Int} (hg : ∀ x, 1 ≤ g x ∧ g x ≤ 9) : ∀ {l : List Int} {p : Int}, MM.Srt MM.kI l → (∀ x ∈ l, p < x ∧ 1 ≤ x ∧ x ≤ 12) → MM.Val p (l.map fun x => (x, g x))
  | [], _, _, _ => trivial
  | y :: l, p, hs, hr => by
    have h1 := hr y (by simp)
    have h2 := List.pairwise_cons.1 hs
    exact ⟨h1.1, h1.2.1, h1.2.2, (hg y).1, (hg y).2, val_of hg h2.2 (fun x hx => ⟨h2.1 x hx, (hr x (by simp [hx])).2⟩)⟩
theorem view_zero {s : Sm} (h : MM.OkS s) : MM.errV (MM.vk s) s.c s.f (MM.mems s) = 0 := by
  have h1 : JM.errR (MM.vk s) s.c s.f = 0 := by
    unfold MM.vk
    cases hz : MM.rz s with
    | true =>
      obtain ⟨_, h2, h3⟩ := MM.rz_iff.1 hz
      rw [h2, h3]
      rfl
    | false =>
      rcases h.z with h2 | h2
      · rw [h2] at hz; cases hz
      · exact h2
  unfold MM.errV
  rw [if_pos h1]
  refine MM.errM_val.2 ?_
  unfold MM.mems
  refine val_of (fun x => ?_) (List.Pairwise.sublist List.filter_sublist h.j) (fun x hx => ?_)
  · unfold MM.wtOf
    cases hk : MM.lk MM.kW s.W x with
    | none => exact ⟨by decide, by decide⟩
    | some e => have := h.ws e (MM.lk_some MM.kW hk).1; exact ⟨this.2.1, this.2.2.1⟩
  · have := h.js x (List.mem_filter.1 hx).1
    exact ⟨by omega, this⟩

set_option maxRecDepth 100000 in
set_option maxHeartbeats 8000000 in
theorem lMemberView (va : Value) (s : Sm) (W : World) (ha : RdS W va s) :
    Calls Try.prog 7 #[va] W fun e w' => e = .returned (.bool true) ∧ Below W.heap.size W w' := by
  obtain ⟨x, y, z, hva, _⟩ := id ha
  obtain ⟨w2, hw2⟩ : ∃ w2, W.alloc (.cells (s9 x y z s.k s.c s.f s.v s.a s.n) 34) = w2 := ⟨_, rfl⟩
  have hB := below_fresh W (.cells (s9 x y z s.k s.c s.f s.v s.a s.n) 34)
  have hA := heap_alloc_new W (.cells (s9 x y z s.k s.c s.f s.v s.a s.n) 34)
  rw [hw2] at hB hA
  have hra := ha.below hB
  have HS1 := Lib.hid (fun w (hb : Below w2.heap.size w2 w) => cShort va s w (hra.below hb))
  have HV1 := Lib.hid (fun w (hb : Below w2.heap.size w2 w) => rValSum va s w (hra.below hb))
  have HAW := Lib.hid (fun w => cAwake w)
  have HJN : Hid (MM.errS s = 0 → ∃ (k c f : Int) (ms : List Mem), (∀ w, Below w2.heap.size w2 w → Calls Try.prog 25 #[va] w fun e w' => ∃ sl, e = .returned (vw sl k c f) ∧ RdM w' sl ms ∧ Below w.heap.size w w') ∧
      (∀ w, Below w2.heap.size w2 w → Calls Try.prog 27 #[va] w fun e w' => ∃ sl, e = .returned (vw sl k c f) ∧ RdM w' sl ms ∧ Below w.heap.size w w') ∧ MM.errV k c f ms = 0) := Lib.hid (fun h1 => by
    have o1 := MM.errS_iff.1 h1
    exact ⟨_, _, _, _, fun w hb => cView va s w (hra.below hb) o1.r o1.w (okS_len o1), fun w hb => rView va s w (hra.below hb) (okS_len o1), view_zero o1⟩)
  generalize MM.errS s = E1 at HV1 HJN
  generalize shortB s = sa at HS1
  obtain ⟨J, Rm, Ws, k, c, f, v, a, n⟩ := s
  dsimp only at hva hw2 hA
  subst hva
  have HA := Lib.hid hA
  have HB := Lib.hid hB
  have HW := Lib.hid hw2
  clear ha hra hA hB hw2
  obtain ⟨⟨a0, a1, a2, a3, a4, a5, a6, a7, a8⟩, _⟩ := row9_at HA.out
  go_enter Try.func7, Try.ntmps7
  go_upto_region 1 with fail
  rw [HW.out]
  go_wp2_with fail
  refine (HS1.out w2 (Below.refl _ _)).mono ?_
  rintro e w4 ⟨rfl, hb4⟩
  have HB4 := Lib.hid hb4
  have HA4 := Lib.hid (below_block HA.out hb4)
  clear hb4 a0 a1 a2 a3 a4 a5 a6 a7 a8 HA HS1
  cases sa
  · go_wp2_with fail
    refine (HAW.out w4).mono ?_
    rintro e w5 ⟨rfl, hb5⟩
    go_wp2
    go_ret
    exact ⟨rfl, bnext HB.out (bnext HB4.out hb5)⟩
  obtain ⟨⟨a0, a1, a2, a3, a4, a5, a6, a7, a8⟩, _⟩ := row9_at HA4.out
  go_wp2_with fail
  refine (HV1.out w4 HB4.out).mono ?_
  rintro e w5 ⟨rfl, hb5⟩
  have HB5 := Lib.hid (bnext HB4.out hb5)
  have HA5 := Lib.hid (below_block HA4.out hb5)
  clear hb5 a0 a1 a2 a3 a4 a5 a6 a7 a8 HA4 HV1 HB4
  by_cases hE1 : E1 = 0
  case neg =>
    have hne : (E1 != 0) = true := bne_t hE1
    clear hE1
    go_wp2_with fail
    refine (HAW.out w5).mono ?_
    rintro e w6 ⟨rfl, hb6⟩
    go_wp2
    go_ret
    exact ⟨rfl, bnext HB.out (bnext HB5.out hb6)⟩
  subst hE1
  obtain ⟨k', c', f', ms, hc, hr, hT⟩ := HJN.out (by first | rfl | trivial)
  have HC := Lib.hid hc
  have HR := Lib.hid hr
  have HVS := Lib.hid (fun w' (v : Value) (h : RdM w' v ms) => by
    have := rValView v k' c' f' ms w' h
    rw [hT] at this
    exact this)
  have HEQ := Lib.hid (fun w (u1 u2 : Value) (h1 : RdM w u1 ms) (h2 : RdM w u2 ms) => by
    have := rEqView u1 u2 ms ms k' c' f' k' c' f' w h1 h2
    rw [show decide (ms = ms ∧ k' = k' ∧ c' = c' ∧ f' = f') = true by simp] at this
    exact this)
  clear hc hr hT HJN
  obtain ⟨⟨a0, a1, a2, a3, a4, a5, a6, a7, a8⟩, _⟩ := row9_at HA5.out
  go_wp2_with fail
  refine (HC.out w5 HB5.out).mono ?_
  rintro e w7 ⟨sl, rfl, hrs, hb7⟩
  obtain ⟨am, cm, hvs, _⟩ := hrs.shape
  subst hvs
  -- the view's box
  obtain ⟨S0, hS0⟩ : ∃ o, o = Obj.cells (v4 (.slice am ms.length cm) k' c' f') 46 := ⟨_, rfl⟩
  have hb8 := below_fresh w7 S0
  have hx8 := heap_alloc_new w7 S0
  obtain ⟨X, hX⟩ : ∃ X, X = w7.heap.size := ⟨_, rfl⟩
  rw [← hX] at hx8
  have HA8 := Lib.hid (below_block (below_block HA5.out hb7) hb8)
  have HB8 := Lib.hid (bnext (bnext HB5.out hb7) hb8)
  have HSR := Lib.hid (hrs.below hb8)
  generalize hw8 : w7.alloc S0 = w8 at hx8 HA8 HB8 HSR
  rw [hS0] at hx8 hw8
  have HX := Lib.hid hx8
  have HW8 := Lib.hid hw8
  have HXE := Lib.hid hX
  clear hb8 hx8 hw8 hX hS0 S0 hrs hb7 HC HA5 HB5 a0 a1 a2 a3 a4 a5 a6 a7 a8
  go_upto_region 4 with fail
  rw [HW8.out, ← HXE.out]
  clear HW8 HXE
  refine wp_region_held_drew (S := fun w' => Below w8.heap.size w8 w') (by kernel_rfl) ((Below.refl _ _).drew) (fun ha => ?_)
  replace ha : Below w8.heap.size w8 w8.drew := (Below.refl _ _).drew
  generalize w8.drew = wa at ha ⊢
  refine takeH (i := 0) (v := ?_) rfl (by kernel_rfl) (by kernel_rfl) (by kernel_rfl) (fun _ _ _ h => h) (Or.inl ⟨by rfl, ?_⟩) (by assumption) ?_
  rotate_left
  · (intro w hSw; (try dsimp only at hSw); obtain ⟨⟨q0, q1, q2, q3⟩, _⟩ := row4_at (below_block HX.out hSw); go_simp; first | done | with_reducible rfl)
  (try simp only [Act.put, List.setIfInBounds_toArray, List.set_cons_zero, List.set_cons_succ])
  refine takeH (i := 1) (v := ?_) rfl (by kernel_rfl) (by kernel_rfl) (by kernel_rfl) (fun _ _ _ h => h) (Or.inl ⟨by rfl, ?_⟩) (by assumption) ?_
  rotate_left
  · (intro w hSw; (try dsimp only at hSw); obtain ⟨⟨a0, a1, a2, a3, a4, a5, a6, a7, a8⟩, _⟩ := row9_at (below_block HA8.out hSw); go_simp; first | done | with_reducible rfl)
  (try simp only [Act.put, List.setIfInBounds_toArray, List.set_cons_zero, List.set_cons_succ])
  refine wpAnyH_ready (rs := [2]) (by kernel_rfl) (by simp) ?_
  refine stepH rfl (fun K hK => ?_) AllReadyH.nil
  go_simp
  refine (HR.out wa (bnext HB8.out ha)).mono ?_
  rintro e wb ⟨v2, rfl, hr2, hq⟩
  have hr1 := HSR.out.below (bnext ha hq)
  have hb := bnext ha hq
  go_wp2_with fail
  refine hK.out _ _ (hb) (fun _ => ?_)
  clear hK K
  (try simp only [Act.put, List.setIfInBounds_toArray, List.set_cons_zero, List.set_cons_succ])
  refine wpAnyH_ready (rs := [3]) (by kernel_rfl) (by simp) ?_
  refine stepH rfl (fun K hK => ?_) AllReadyH.nil
  go_simp
  refine (HEQ.out wb _ v2 hr1 hr2).mono ?_
  rintro e wc ⟨rfl, hq⟩
  replace hr1 := hr1.below hq
  have hc := bnext hb hq
  go_wp2_with fail
  refine hK.out _ _ (hc) (fun _ => ?_)
  clear hK K
  (try simp only [Act.put, List.setIfInBounds_toArray, List.set_cons_zero, List.set_cons_succ])
  refine takeH (i := 4) (v := ?_) rfl (by kernel_rfl) (by kernel_rfl) (by kernel_rfl) (fun _ _ _ h => h) (Or.inl ⟨by rfl, ?_⟩) (by assumption) ?_
  rotate_left
  · (intro w hSw; (try dsimp only at hSw); go_simp; first | done | with_reducible rfl)
  (try simp only [Act.put, List.setIfInBounds_toArray, List.set_cons_zero, List.set_cons_succ])
  refine takeH (i := 5) (v := ?_) rfl (by kernel_rfl) (by kernel_rfl) (by kernel_rfl) (fun _ _ _ h => h) (Or.inl ⟨by rfl, ?_⟩) (by assumption) ?_
  rotate_left
  · (intro w hSw; (try dsimp only at hSw); obtain ⟨⟨q0, q1, q2, q3⟩, _⟩ := row4_at (below_block HX.out hSw); go_simp; first | done | with_reducible rfl)
  (try simp only [Act.put, List.setIfInBounds_toArray, List.set_cons_zero, List.set_cons_succ])
  refine wpAnyH_ready (rs := [6]) (by kernel_rfl) (by simp) ?_
  refine stepH rfl (fun K hK => ?_) AllReadyH.nil
  go_simp
  refine (HVS.out wc _ hr1).mono ?_
  rintro e wd ⟨rfl, hq⟩
  have hd := bnext hc hq
  go_wp2_with fail
  refine hK.out _ _ (hd) (fun _ => ?_)
  clear hK K
  (try simp only [Act.put, List.setIfInBounds_toArray, List.set_cons_zero, List.set_cons_succ])
  refine takeH (i := 7) (v := ?_) rfl (by kernel_rfl) (by kernel_rfl) (by kernel_rfl) (fun _ _ _ h => h) (Or.inl ⟨by rfl, ?_⟩) (by assumption) ?_
  rotate_left
  · (intro w hSw; (try dsimp only at hSw); go_simp; first | done | with_reducible rfl)
  (try simp only [Act.put, List.setIfInBounds_toArray, List.set_cons_zero, List.set_cons_succ])
  refine takeH (i := 8) (v := ?_) rfl (by kernel_rfl) (by kernel_rfl) (by kernel_rfl) (fun _ _ _ h => h) (Or.inl ⟨by rfl, ?_⟩) (by assumption) ?_
  rotate_left
  · (intro w hSw; (try dsimp only at hSw); go_simp; first | done | with_reducible rfl)
  (try simp only [Act.put, List.setIfInBounds_toArray, List.set_cons_zero, List.set_cons_succ])
  refine takeH (i := 9) (v := ?_) rfl (by kernel_rfl) (by kernel_rfl) (by kernel_rfl) (fun _ _ _ h => h) (Or.inl ⟨by rfl, ?_⟩) (by assumption) ?_
  rotate_left
  · (intro w hSw; (try dsimp only at hSw); go_simp; first | done | with_reducible rfl)
  (try simp only [Act.put, List.setIfInBounds_toArray, List.set_cons_zero, List.set_cons_succ])
  refine wpAnyH_ready (rs := [10]) (by kernel_rfl) (by simp) ?_
  refine stepH rfl (fun K hK => ?_) AllReadyH.nil
  go_simp
  refine (HAW.out wd).mono ?_
  rintro e we ⟨rfl, hq⟩
  have he := bnext hd hq
  go_wp2_with fail
  refine hK.out _ _ (he) (fun _ => ?_)
  clear hK K
  (try simp only [Act.put, List.setIfInBounds_toArray, List.set_cons_zero, List.set_cons_succ])
  refine takeH (i := 11) (v := ?_) rfl (by kernel_rfl) (by kernel_rfl) (by kernel_rfl) (fun _ _ _ h => h) (Or.inl ⟨by rfl, ?_⟩) (by assumption) ?_
  rotate_left
  · (intro w hSw; (try dsimp only at hSw); go_simp; first | done | with_reducible rfl)
  (try simp only [Act.put, List.setIfInBounds_toArray, List.set_cons_zero, List.set_cons_succ])
  refine takeH (i := 12) (v := ?_) rfl (by kernel_rfl) (by kernel_rfl) (by kernel_rfl) (fun _ _ _ h => h) (Or.inl ⟨by rfl, ?_⟩) (by assumption) ?_
  rotate_left
  · (intro w hSw; (try dsimp only at hSw); go_simp; first | done | with_reducible rfl)
  (try simp only [Act.put, List.setIfInBounds_toArray, List.set_cons_zero, List.set_cons_succ])
  refine wpAnyH_done (by kernel_rfl) ?_ _
  clear hr1 hr2
  have HF := Lib.hid (bnext HB.out (bnext HB8.out he))
  clear ha hb hc hd he
  go_wp2
  go_ret
  exact ⟨rfl, HF.out⟩

end Go.Proofs.Ytdipheijagjelaa
