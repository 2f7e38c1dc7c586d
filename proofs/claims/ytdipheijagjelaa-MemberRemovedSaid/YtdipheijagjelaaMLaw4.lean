/-
  The law MemberRemoved: it returns true. Conditions: the list of numbers reads.
-/
import Derived.Test.YtdipheijagjelaaMLaw1
import Derived.Test.YtdipheijagjelaaMKit
import Derived.Test.YtdipheijagjelaaKI
namespace Go.Proofs.Ytdipheijagjelaa
open Go.RowKit Go.Joins
open JM (Chg)
open CM (Fp)
open MM (Mem Ent Sm Tri)

theorem run_fieldR (x y z : Value) (k c f v a n : Int) (w : World) : (Instr.field 34 (sv x y z k c f v a n) 1).run Try.prog w = .ok y w := by
  have hu := Try.underlying34
  have ha := Try.isAgg31
  have hs := Try.sizeOf31
  simp [Instr.field, run_underlying hu, asAgg, part, ha, hs]

/-- What a part of a pool removes is removed by the pool; a member has joined and isn't removed. -/
theorem removed_sub {ms : List Mem} {k c f : Int} {fs : List Fp} (hg : MM.errG k c f ms = 0) (hok : CM.Ok fs) (g : Int → Int) :
    MM.OkS (MM.summ ms k c f fs) ∧ MM.OkS (MM.summ ms k c f (CM.rs fs g)) ∧ (∀ x ∈ (MM.summ ms k c f (CM.rs fs g)).R, (MM.summ ms k c f fs).R.contains x = true) ∧
      (∀ m ∈ MM.mems (MM.summ ms k c f fs), (MM.summ ms k c f (CM.rs fs g)).R.contains m.1 = false ∧ (MM.summ ms k c f fs).J.contains m.1 = true) := by
  obtain ⟨g1, g2, _⟩ := MM.errG_zero hg
  have s2 := MM.sp_summ (c := c) (f := f) g1 g2 (fun x hx => hok.all x hx)
  have s1 := MM.sp_summ (c := c) (f := f) (fs := CM.rs fs g) g1 g2 (fun x hx => (hok.rs g).all x hx)
  have hsub : ∀ x ∈ (MM.summ ms k c f (CM.rs fs g)).R, x ∈ (MM.summ ms k c f fs).R := by
    intro x hx
    obtain ⟨u, h1, h2⟩ := (s1.r x).1 hx
    refine (s2.r x).2 ⟨u, ?_, h2⟩
    unfold MM.allT at h1 ⊢
    rcases List.mem_cons.1 h1 with rfl | h1
    · exact List.mem_cons_self
    · obtain ⟨y, h3, rfl⟩ := List.mem_map.1 h1
      exact List.mem_cons_of_mem _ (List.mem_map.2 ⟨y, (CM.rs_mem.1 h3).1, rfl⟩)
  refine ⟨s2.ok, s1.ok, fun x hx => by simpa using hsub x hx, fun m hm => ?_⟩
  unfold MM.mems at hm
  obtain ⟨x, h1, rfl⟩ := List.mem_map.1 hm
  obtain ⟨h2, h3⟩ := List.mem_filter.1 h1
  refine ⟨?_, by simpa using h2⟩
  have h4 : x ∉ (MM.summ ms k c f fs).R := by simpa using h3
  simpa using fun h5 => h4 (hsub x h5)

set_option maxRecDepth 100000 in
set_option maxHeartbeats 4000000 in
theorem lMemberRemoved (n : Int) (v : Value) (l : List Int) (x : Int) (W : World) (h : RdI W v l) (hl : l.length ≤ 4611686018427387904) :
    Calls Try.prog 8 #[.int .i64 n, v, .int .i64 x] W fun e w' => e = .returned (.bool true) ∧ Below W.heap.size W w' := by
  have HG := Lib.hid (kGenesis n W)
  have HP := Lib.hid (fun w (hb : Below W.heap.size W w) => kPool v l w (h.below hb) hl)
  have HAW := Lib.hid (fun w => cAwake w)
  obtain ⟨ad, cp, rfl, _, _⟩ := h.shape
  clear h hl
  go_enter Try.func8, Try.ntmps8
  go_wp2_with fail
  refine HG.out.mono ?_
  rintro e w1 ⟨u, k, c, f, ms, rfl, hm, hg, hb1⟩
  obtain ⟨am, cm, hu, _, _⟩ := hm.shape
  have HM := Lib.hid hm
  have HB := Lib.hid hb1
  have HGZ := Lib.hid hg
  subst hu
  clear hm hb1 hg HG
  go_wp2_with fail
  refine (HP.out w1 HB.out).mono ?_
  rintro e w2 ⟨vp, fs, rfl, hpr, hok, hb2⟩
  obtain ⟨ap, cq, hvp, _, _⟩ := hpr.shape
  subst hvp
  have hp9 := hok.nine
  have HOK := Lib.hid hok
  -- the genesis' box
  obtain ⟨S0, hS0⟩ : ∃ o, o = gBox (.slice am ms.length cm) k c f := ⟨_, rfl⟩
  have hb3 := below_fresh w2 S0
  have hx3 := heap_alloc_new w2 S0
  obtain ⟨X, hX⟩ : ∃ X, X = w2.heap.size := ⟨_, rfl⟩
  rw [← hX] at hx3
  replace HM := Lib.hid (HM.out.below (bnext hb2 hb3))
  have HF := Lib.hid (hpr.below hb3)
  replace HB := Lib.hid (bnext (bnext HB.out hb2) hb3)
  generalize hw3 : w2.alloc S0 = w3 at hx3 HM HF HB
  rw [hS0] at hx3 hw3
  have HX := Lib.hid hx3
  have HW3 := Lib.hid (show w2.alloc (.cells #[.slice am ms.length cm, .int .i64 k, .int .i64 c, .int .i64 f] 26) = w3 from hw3)
  have HXE := Lib.hid hX
  clear hb2 hb3 hx3 hw3 hX hS0 S0 hpr hok HP
  go_upto_region 2 with fail
  rw [HW3.out, ← HXE.out]
  clear HW3 HXE
  have HPT := Lib.hid (kPart _ fs x w3 HF.out (by omega))
  go_wp2_with fail
  refine HPT.out.mono ?_
  rintro e w4 ⟨va, g, rfl, har, hb4⟩
  obtain ⟨aa, ca, hva, _, _⟩ := har.shape
  subst hva
  obtain ⟨hs2, hs1, hsub, hmem⟩ := removed_sub HGZ.out HOK.out g
  have hlen1 : (CM.rs fs g).length ≤ 1000000 := by have := CM.rs_len fs g; omega
  have HS1 := Lib.hid (fun w (b : Below w4.heap.size w4 w) => cSummarize (.slice am ms.length cm) (.slice aa (CM.rs fs g).length ca) k c f ms (CM.rs fs g) w ((HM.out.below hb4).below b) (har.below b) HGZ.out (by have := gen_len HGZ.out; omega) (fun y hy => (HOK.out.rs g).all y hy) hlen1)
  have HS2 := Lib.hid (fun w (b : Below w4.heap.size w4 w) => cSummarize (.slice am ms.length cm) (.slice ap fs.length cq) k c f ms fs w ((HM.out.below hb4).below b) ((HF.out.below hb4).below b) HGZ.out (by have := gen_len HGZ.out; omega) (fun y hy => HOK.out.all y hy) (by omega))
  replace HB := Lib.hid (bnext HB.out hb4)
  replace HX := Lib.hid (below_block HX.out hb4)
  clear hlen1 HPT HM HF HGZ HOK har hb4 hp9
  generalize MM.summ ms k c f (CM.rs fs g) = S1 at HS1 hs1 hsub hmem
  generalize MM.summ ms k c f fs = S2 at HS2 hs2 hsub hmem
  generalize (CM.rs fs g).length = lp at HS1 ⊢
  obtain ⟨Ja, Ra, Wa, ka, kc, kf, kv, kd, kn⟩ := S1
  obtain ⟨Jb, Rb, Wb, rk, rc, rf, rv, rd, rn⟩ := S2
  have HLA := Lib.hid (okS_len hs1)
  have HLB := Lib.hid (okS_len hs2)
  have HVW := Lib.hid (fun w v (hr : RdS w v ⟨Jb, Rb, Wb, rk, rc, rf, rv, rd, rn⟩) => cView v _ w hr hs2.r hs2.w HLB.out)
  have hlm : (MM.mems ⟨Jb, Rb, Wb, rk, rc, rf, rv, rd, rn⟩).length ≤ 1000000 := by
    have h1 : (MM.mems ⟨Jb, Rb, Wb, rk, rc, rf, rv, rd, rn⟩).length ≤ Jb.length := by
      unfold MM.mems
      rw [List.length_map]
      exact List.length_filter_le _ _
    have h2 := HLB.out.1
    dsimp only at h2
    omega
  generalize MM.mems ⟨Jb, Rb, Wb, rk, rc, rf, rv, rd, rn⟩ = M at HVW hmem hlm
  generalize MM.vk ⟨Jb, Rb, Wb, rk, rc, rf, rv, rd, rn⟩ = vk at HVW
  dsimp only at HLA HLB HVW hsub hmem
  have HSUB := Lib.hid hsub
  have HMEM := Lib.hid hmem
  clear hs1 hs2 hsub hmem
  obtain ⟨⟨q0, q1, q2, q3⟩, _⟩ := row4_at HX.out
  go_wp2_with fail
  refine (HS1.out w4 (Below.refl _ _)).mono ?_
  rintro e w5 ⟨v5, rfl, hr5, hb5⟩
  have hrs := hr5.rd
  obtain ⟨xg, yg, zg, hv5, _, hR1, _⟩ := hrs
  dsimp only at hv5 hR1
  obtain ⟨ar, cr, hyg, _, _⟩ := hR1.shape
  subst hyg
  subst hv5
  replace HB := Lib.hid (bnext HB.out hb5)
  replace HX := Lib.hid (below_block HX.out hb5)
  have HBX := Lib.hid hb5
  have HR1 := Lib.hid hR1
  have hfr := fun (x y z : Value) (k c f v a n : Int) (w : World) => run_fieldR x y z k c f v a n w
  clear hr5 hR1 hb5 HS1 q0 q1 q2 q3
  go_upto_region 4 with fail
  clear hfr
  obtain ⟨⟨q0, q1, q2, q3⟩, _⟩ := row4_at HX.out
  go_wp2_with fail
  refine (HS2.out w5 HBX.out).mono ?_
  rintro e w6 ⟨v6, rfl, hr6, hb6⟩
  have hrs := hr6.rd
  obtain ⟨ax, lx, cx, ay, ly, cy, az, lz, cz, hv6⟩ := hrs.shape
  dsimp only at hv6
  subst hv6
  -- the summary's box
  obtain ⟨S0, hS0⟩ : ∃ o, o = Obj.cells (s9 (.slice ax lx cx) (.slice ay ly cy) (.slice az lz cz) rk rc rf rv rd rn) 34 := ⟨_, rfl⟩
  have hb7 := below_fresh w6 S0
  have hx7 := heap_alloc_new w6 S0
  obtain ⟨Y, hY⟩ : ∃ Y, Y = w6.heap.size := ⟨_, rfl⟩
  rw [← hY] at hx7
  replace HB := Lib.hid (bnext (bnext HB.out hb6) hb7)
  replace HR1 := Lib.hid (HR1.out.below (bnext hb6 hb7))
  have HSR := Lib.hid (hrs.below hb7)
  generalize hw7 : w6.alloc S0 = w7 at hx7 HB HR1 HSR
  rw [hS0] at hx7 hw7
  have HY := Lib.hid hx7
  have HW7 := Lib.hid hw7
  have HYE := Lib.hid hY
  clear hb7 hx7 hw7 hY hS0 S0 hr6 hrs hb6 HS2 HX HBX q0 q1 q2 q3
  go_upto_region 5 with fail
  rw [HW7.out, ← HYE.out]
  clear HW7 HYE
  obtain ⟨⟨s0, s1, s2, s3, s4, s5, s6, s7, s8⟩, _⟩ := row9_at HY.out
  go_wp2_with fail
  refine (HVW.out w7 _ HSR.out).mono ?_
  rintro e w8 ⟨sl, rfl, hr8, hb8⟩
  obtain ⟨am', cm', hvs, _⟩ := hr8.shape
  subst hvs
  -- the view's box
  obtain ⟨S0, hS0⟩ : ∃ o, o = Obj.cells (v4 (.slice am' M.length cm') vk rc rf) 46 := ⟨_, rfl⟩
  have hb9 := below_fresh w8 S0
  have hx9 := heap_alloc_new w8 S0
  obtain ⟨Z, hZ⟩ : ∃ Z, Z = w8.heap.size := ⟨_, rfl⟩
  rw [← hZ] at hx9
  replace HB := Lib.hid (bnext (bnext HB.out hb8) hb9)
  replace HR1 := Lib.hid (HR1.out.below (bnext hb8 hb9))
  replace HSR := Lib.hid (HSR.out.below (bnext hb8 hb9))
  replace HY := Lib.hid (below_block (below_block HY.out hb8) hb9)
  have HVR := Lib.hid (hr8.below hb9)
  generalize hw9 : w8.alloc S0 = w9 at hx9 HB HR1 HSR HY HVR
  rw [hS0] at hx9 hw9
  have HZ := Lib.hid hx9
  have HW9 := Lib.hid hw9
  have HZE := Lib.hid hZ
  clear hb9 hx9 hw9 hZ hS0 S0 hr8 hb8 HVW s0 s1 s2 s3 s4 s5 s6 s7 s8
  go_upto_region 6 with fail
  rw [HW9.out, ← HZE.out]
  clear HW9 HZE
  -- what In returns
  obtain ⟨xs, ys, zs, hsv, hJ2, hR2, _⟩ := HSR.out
  dsimp only at hJ2 hR2
  unfold sv at hsv
  injection hsv with hsv
  injection hsv with hsv
  injection hsv with e0 hsv
  injection hsv with e1 hsv
  subst e0 e1
  have HI1 := Lib.hid (fun w (b : Below w9.heap.size w9 w) (j : Nat) (m : Mem) (hx : M[j]? = some m) => by
    have := rIn _ Ra m.1 w (HR1.out.below b)
    rw [(HMEM.out m (List.mem_of_getElem? hx)).1] at this
    exact this)
  have HI2 := Lib.hid (fun w (b : Below w9.heap.size w9 w) (j : Nat) (m : Mem) (hx : M[j]? = some m) => by
    have := rIn _ Jb m.1 w (hJ2.below b)
    rw [(HMEM.out m (List.mem_of_getElem? hx)).2] at this
    exact this)
  have HI3 := Lib.hid (fun w (b : Below w9.heap.size w9 w) (j : Nat) (y : Int) (hx : Ra[j]? = some y) => by
    have := rIn _ Rb y w (hR2.below b)
    rw [HSUB.out y (List.mem_of_getElem? hx)] at this
    exact this)
  have HLM := Lib.hid hlm
  clear hsv hJ2 hR2 HMEM HSUB HSR hlm
  have HBW := Lib.hid (Below.refl w9.heap.size w9)
  go_wp2
  go_loopw [13] (fun i wr => ∃ (j : Nat), j ≤ M.length ∧ i = .int .i64 j ∧ Hid (Below w9.heap.size w9 wr)) (fun i _ => M.length - (intOf i).toNat)
  case atStart => exact ⟨0, Nat.zero_le _, rfl, HBW⟩
  case round =>
    clear HBW
    obtain ⟨j, hj, rfl, HBW⟩ := hrel
    obtain ⟨⟨q0, q1, q2, q3⟩, _⟩ := row4_at (below_block HZ.out HBW.out)
    by_cases hlt : j < M.length
    · have hq : (j : Int) < (M.length : Int) := by omega
      have hjb : (j : Int) ≤ 1000000 := by have := HLM.out; omega
      obtain ⟨⟨m, wt⟩, hx⟩ : ∃ m : Mem, M[j]? = some m := ⟨_, List.getElem?_eq_getElem hlt⟩
      obtain ⟨o1, oo, hi, hob, c0, _⟩ := atM HVR.out j _ hx
      have HHI := Lib.hid hi
      have HC := Lib.hid (fun w (b : Below w9.heap.size w9 w) => (b.cell hob).trans c0)
      have HGE := Lib.hid hx
      clear hx hi c0 hob
      dsimp only at HC
      go_wp2
      clear q0 q1 q2 q3
      refine wp_region_held_drew (S := fun w' => Below wr.heap.size wr w') (by kernel_rfl) ((Below.refl _ _).drew) (fun ha => ?_)
      replace ha : Below wr.heap.size wr wr.drew := (Below.refl _ _).drew
      generalize wr.drew = wa at ha ⊢
      refine takeH (i := 0) (v := ?_) rfl (by kernel_rfl) (by kernel_rfl) (by kernel_rfl) (fun _ _ _ h => h) (Or.inl ⟨by rfl, ?_⟩) (by assumption) ?_
      rotate_left
      · (intro w hSw; (try dsimp only at hSw); go_simp; first | done | with_reducible rfl)
      (try simp only [Act.put, List.setIfInBounds_toArray, List.set_cons_zero, List.set_cons_succ])
      refine takeH (i := 1) (v := ?_) rfl (by kernel_rfl) (by kernel_rfl) (by kernel_rfl) (fun _ _ _ h => h) (Or.inl ⟨by rfl, ?_⟩) (by assumption) ?_
      rotate_left
      · (intro w hSw; (try dsimp only at hSw); go_simp; first | done | with_reducible rfl)
      (try simp only [Act.put, List.setIfInBounds_toArray, List.set_cons_zero, List.set_cons_succ])
      refine takeH (i := 2) (v := ?_) rfl (by kernel_rfl) (by kernel_rfl) (by kernel_rfl) (fun _ _ _ h => h) (Or.inl ⟨by rfl, ?_⟩) (by assumption) ?_
      rotate_left
      · (intro w hSw; (try dsimp only at hSw); obtain ⟨⟨q0, q1, q2, q3⟩, _⟩ := row4_at (below_block HZ.out (bnext HBW.out hSw)); go_simp; first | done | with_reducible rfl)
      (try simp only [Act.put, List.setIfInBounds_toArray, List.set_cons_zero, List.set_cons_succ])
      refine takeH (i := 3) (v := ?_) rfl (by kernel_rfl) (by kernel_rfl) (by kernel_rfl) (fun _ _ _ h => h) (Or.inl ⟨by rfl, ?_⟩) (by assumption) ?_
      rotate_left
      · (intro w hSw; (try dsimp only at hSw); go_simp; first | done | with_reducible rfl)
      (try simp only [Act.put, List.setIfInBounds_toArray, List.set_cons_zero, List.set_cons_succ])
      refine takeH (i := 4) (v := ?_) rfl (by kernel_rfl) (by kernel_rfl) (by kernel_rfl) (fun _ _ _ h => h) (Or.inl ⟨by rfl, ?_⟩) (by assumption) ?_
      rotate_left
      · (intro w hSw; (try dsimp only at hSw); have hi := HHI.out; go_simp; first | done | with_reducible rfl)
      (try simp only [Act.put, List.setIfInBounds_toArray, List.set_cons_zero, List.set_cons_succ])
      refine takeH (i := 5) (v := ?_) rfl (by kernel_rfl) (by kernel_rfl) (by kernel_rfl) (fun _ _ _ h => h) (Or.inl ⟨by rfl, ?_⟩) (by assumption) ?_
      rotate_left
      · (intro w hSw; (try dsimp only at hSw); go_simp; first | done | with_reducible rfl)
      (try simp only [Act.put, List.setIfInBounds_toArray, List.set_cons_zero, List.set_cons_succ])
      refine takeH (i := 6) (v := ?_) rfl (by kernel_rfl) (by kernel_rfl) (by kernel_rfl) (fun _ _ _ h => h) (Or.inl ⟨by rfl, ?_⟩) (by assumption) ?_
      rotate_left
      · (intro w hSw; (try dsimp only at hSw); have hc := HC.out w (bnext HBW.out hSw); go_simp; first | done | with_reducible rfl)
      (try simp only [Act.put, List.setIfInBounds_toArray, List.set_cons_zero, List.set_cons_succ])
      refine wpAnyH_ready (rs := [7]) (by kernel_rfl) (by simp) ?_
      refine stepH rfl (fun K hK => ?_) AllReadyH.nil
      go_simp
      refine (HI1.out wa (bnext HBW.out ha) j _ HGE.out).mono ?_
      rintro e wb ⟨rfl, hq⟩
      have hb := bnext ha hq
      go_wp2_with fail
      refine hK.out _ _ (hb) (fun _ => ?_)
      clear hK K
      (try simp only [Act.put, List.setIfInBounds_toArray, List.set_cons_zero, List.set_cons_succ])
      refine takeH (i := 8) (v := ?_) rfl (by kernel_rfl) (by kernel_rfl) (by kernel_rfl) (fun _ _ _ h => h) (Or.inl ⟨by rfl, ?_⟩) (by assumption) ?_
      rotate_left
      · (intro w hSw; (try dsimp only at hSw); go_simp; first | done | with_reducible rfl)
      (try simp only [Act.put, List.setIfInBounds_toArray, List.set_cons_zero, List.set_cons_succ])
      refine takeH (i := 9) (v := ?_) rfl (by kernel_rfl) (by kernel_rfl) (by kernel_rfl) (fun _ _ _ h => h) (Or.inl ⟨by rfl, ?_⟩) (by assumption) ?_
      rotate_left
      · (intro w hSw; (try dsimp only at hSw); go_simp; first | done | with_reducible rfl)
      (try simp only [Act.put, List.setIfInBounds_toArray, List.set_cons_zero, List.set_cons_succ])
      refine takeH (i := 10) (v := ?_) rfl (by kernel_rfl) (by kernel_rfl) (by kernel_rfl) (fun _ _ _ h => h) (Or.inl ⟨by rfl, ?_⟩) (by assumption) ?_
      rotate_left
      · (intro w hSw; (try dsimp only at hSw); obtain ⟨⟨s0, s1, s2, s3, s4, s5, s6, s7, s8⟩, _⟩ := row9_at (below_block HY.out (bnext HBW.out hSw)); go_simp; first | done | with_reducible rfl)
      (try simp only [Act.put, List.setIfInBounds_toArray, List.set_cons_zero, List.set_cons_succ])
      refine takeH (i := 11) (v := ?_) rfl (by kernel_rfl) (by kernel_rfl) (by kernel_rfl) (fun _ _ _ h => h) (Or.inl ⟨by rfl, ?_⟩) (by assumption) ?_
      rotate_left
      · (intro w hSw; (try dsimp only at hSw); go_simp; first | done | with_reducible rfl)
      (try simp only [Act.put, List.setIfInBounds_toArray, List.set_cons_zero, List.set_cons_succ])
      refine takeH (i := 12) (v := ?_) rfl (by kernel_rfl) (by kernel_rfl) (by kernel_rfl) (fun _ _ _ h => h) (Or.inl ⟨by rfl, ?_⟩) (by assumption) ?_
      rotate_left
      · (intro w hSw; (try dsimp only at hSw); obtain ⟨⟨q0, q1, q2, q3⟩, _⟩ := row4_at (below_block HZ.out (bnext HBW.out hSw)); go_simp; first | done | with_reducible rfl)
      (try simp only [Act.put, List.setIfInBounds_toArray, List.set_cons_zero, List.set_cons_succ])
      refine takeH (i := 13) (v := ?_) rfl (by kernel_rfl) (by kernel_rfl) (by kernel_rfl) (fun _ _ _ h => h) (Or.inl ⟨by rfl, ?_⟩) (by assumption) ?_
      rotate_left
      · (intro w hSw; (try dsimp only at hSw); go_simp; first | done | with_reducible rfl)
      (try simp only [Act.put, List.setIfInBounds_toArray, List.set_cons_zero, List.set_cons_succ])
      refine takeH (i := 14) (v := ?_) rfl (by kernel_rfl) (by kernel_rfl) (by kernel_rfl) (fun _ _ _ h => h) (Or.inl ⟨by rfl, ?_⟩) (by assumption) ?_
      rotate_left
      · (intro w hSw; (try dsimp only at hSw); have hi := HHI.out; go_simp; first | done | with_reducible rfl)
      (try simp only [Act.put, List.setIfInBounds_toArray, List.set_cons_zero, List.set_cons_succ])
      refine takeH (i := 15) (v := ?_) rfl (by kernel_rfl) (by kernel_rfl) (by kernel_rfl) (fun _ _ _ h => h) (Or.inl ⟨by rfl, ?_⟩) (by assumption) ?_
      rotate_left
      · (intro w hSw; (try dsimp only at hSw); go_simp; first | done | with_reducible rfl)
      (try simp only [Act.put, List.setIfInBounds_toArray, List.set_cons_zero, List.set_cons_succ])
      refine takeH (i := 16) (v := ?_) rfl (by kernel_rfl) (by kernel_rfl) (by kernel_rfl) (fun _ _ _ h => h) (Or.inl ⟨by rfl, ?_⟩) (by assumption) ?_
      rotate_left
      · (intro w hSw; (try dsimp only at hSw); have hc := HC.out w (bnext HBW.out hSw); go_simp; first | done | with_reducible rfl)
      (try simp only [Act.put, List.setIfInBounds_toArray, List.set_cons_zero, List.set_cons_succ])
      refine wpAnyH_ready (rs := [17]) (by kernel_rfl) (by simp) ?_
      refine stepH rfl (fun K hK => ?_) AllReadyH.nil
      go_simp
      refine (HI2.out wb (bnext HBW.out hb) j _ HGE.out).mono ?_
      rintro e wc ⟨rfl, hq⟩
      have hc := bnext hb hq
      go_wp2_with fail
      refine hK.out _ _ (hc) (fun _ => ?_)
      clear hK K
      (try simp only [Act.put, List.setIfInBounds_toArray, List.set_cons_zero, List.set_cons_succ])
      refine takeH (i := 18) (v := ?_) rfl (by kernel_rfl) (by kernel_rfl) (by kernel_rfl) (fun _ _ _ h => h) (Or.inl ⟨by rfl, ?_⟩) (by assumption) ?_
      rotate_left
      · (intro w hSw; (try dsimp only at hSw); go_simp; first | done | with_reducible rfl)
      (try simp only [Act.put, List.setIfInBounds_toArray, List.set_cons_zero, List.set_cons_succ])
      refine takeH (i := 19) (v := ?_) rfl (by kernel_rfl) (by kernel_rfl) (by kernel_rfl) (fun _ _ _ h => h) (Or.inl ⟨by rfl, ?_⟩) (by assumption) ?_
      rotate_left
      · (intro w hSw; (try dsimp only at hSw); go_simp; first | done | with_reducible rfl)
      (try simp only [Act.put, List.setIfInBounds_toArray, List.set_cons_zero, List.set_cons_succ])
      refine wpAnyH_done (by kernel_rfl) ?_ _
      replace HBW := Lib.hid (bnext HBW.out hc)
      clear ha hb hc HHI HC HGE
      go_wp2
      go_roundw
      case rel => exact ⟨j + 1, by omega, by go_num, HBW⟩
      case measure => simp [intOf]; omega
    · have hq : ¬ ((j : Int) < (M.length : Int)) := by omega
      go_wp2
      clear q0 q1 q2 q3 hq hlt hj
      go_loopw [14] (fun i wz => ∃ (j : Nat), j ≤ Ra.length ∧ i = .int .i64 j ∧ Hid (Below w9.heap.size w9 wz)) (fun i _ => Ra.length - (intOf i).toNat)
      case atStart => exact ⟨0, Nat.zero_le _, rfl, HBW⟩
      case round =>
        clear HBW
        obtain ⟨j, hj, rfl, HBW⟩ := hrel
        by_cases hlt : j < Ra.length
        · have hq : (j : Int) < (Ra.length : Int) := by omega
          have hjb : (j : Int) ≤ 1000000 := by have := HLA.out.2.1; omega
          obtain ⟨m, hx⟩ : ∃ m : Int, Ra[j]? = some m := ⟨_, List.getElem?_eq_getElem hlt⟩
          obtain ⟨o1, oo, hi, hob, c0⟩ := atI HR1.out j _ hx
          have HHI := Lib.hid hi
          have HC := Lib.hid (fun w (b : Below w9.heap.size w9 w) => (b.cell hob).trans c0)
          have HGE := Lib.hid hx
          clear hx hi c0 hob
          go_wp2
          refine wp_region_held_drew (S := fun w' => Below wr.heap.size wr w') (by kernel_rfl) ((Below.refl _ _).drew) (fun ha => ?_)
          replace ha : Below wr.heap.size wr wr.drew := (Below.refl _ _).drew
          generalize wr.drew = wa at ha ⊢
          refine takeH (i := 0) (v := ?_) rfl (by kernel_rfl) (by kernel_rfl) (by kernel_rfl) (fun _ _ _ h => h) (Or.inl ⟨by rfl, ?_⟩) (by assumption) ?_
          rotate_left
          · (intro w hSw; (try dsimp only at hSw); go_simp; first | done | with_reducible rfl)
          (try simp only [Act.put, List.setIfInBounds_toArray, List.set_cons_zero, List.set_cons_succ])
          refine takeH (i := 1) (v := ?_) rfl (by kernel_rfl) (by kernel_rfl) (by kernel_rfl) (fun _ _ _ h => h) (Or.inl ⟨by rfl, ?_⟩) (by assumption) ?_
          rotate_left
          · (intro w hSw; (try dsimp only at hSw); obtain ⟨⟨s0, s1, s2, s3, s4, s5, s6, s7, s8⟩, _⟩ := row9_at (below_block HY.out (bnext HBW.out hSw)); go_simp; first | done | with_reducible rfl)
          (try simp only [Act.put, List.setIfInBounds_toArray, List.set_cons_zero, List.set_cons_succ])
          refine takeH (i := 2) (v := ?_) rfl (by kernel_rfl) (by kernel_rfl) (by kernel_rfl) (fun _ _ _ h => h) (Or.inl ⟨by rfl, ?_⟩) (by assumption) ?_
          rotate_left
          · (intro w hSw; (try dsimp only at hSw); go_simp; first | done | with_reducible rfl)
          (try simp only [Act.put, List.setIfInBounds_toArray, List.set_cons_zero, List.set_cons_succ])
          refine takeH (i := 3) (v := ?_) rfl (by kernel_rfl) (by kernel_rfl) (by kernel_rfl) (fun _ _ _ h => h) (Or.inl ⟨by rfl, ?_⟩) (by assumption) ?_
          rotate_left
          · (intro w hSw; (try dsimp only at hSw); go_simp; first | done | with_reducible rfl)
          (try simp only [Act.put, List.setIfInBounds_toArray, List.set_cons_zero, List.set_cons_succ])
          refine takeH (i := 4) (v := ?_) rfl (by kernel_rfl) (by kernel_rfl) (by kernel_rfl) (fun _ _ _ h => h) (Or.inl ⟨by rfl, ?_⟩) (by assumption) ?_
          rotate_left
          · (intro w hSw; (try dsimp only at hSw); have hi := HHI.out; go_simp; first | done | with_reducible rfl)
          (try simp only [Act.put, List.setIfInBounds_toArray, List.set_cons_zero, List.set_cons_succ])
          refine takeH (i := 5) (v := ?_) rfl (by kernel_rfl) (by kernel_rfl) (by kernel_rfl) (fun _ _ _ h => h) (Or.inl ⟨by rfl, ?_⟩) (by assumption) ?_
          rotate_left
          · (intro w hSw; (try dsimp only at hSw); have hc := HC.out w (bnext HBW.out hSw); go_simp; first | done | with_reducible rfl)
          (try simp only [Act.put, List.setIfInBounds_toArray, List.set_cons_zero, List.set_cons_succ])
          refine wpAnyH_ready (rs := [6]) (by kernel_rfl) (by simp) ?_
          refine stepH rfl (fun K hK => ?_) AllReadyH.nil
          go_simp
          refine (HI3.out wa (bnext HBW.out ha) j _ HGE.out).mono ?_
          rintro e wb ⟨rfl, hq⟩
          have hb := bnext ha hq
          go_wp2_with fail
          refine hK.out _ _ (hb) (fun _ => ?_)
          clear hK K
          (try simp only [Act.put, List.setIfInBounds_toArray, List.set_cons_zero, List.set_cons_succ])
          refine takeH (i := 7) (v := ?_) rfl (by kernel_rfl) (by kernel_rfl) (by kernel_rfl) (fun _ _ _ h => h) (Or.inl ⟨by rfl, ?_⟩) (by assumption) ?_
          rotate_left
          · (intro w hSw; (try dsimp only at hSw); go_simp; first | done | with_reducible rfl)
          (try simp only [Act.put, List.setIfInBounds_toArray, List.set_cons_zero, List.set_cons_succ])
          refine wpAnyH_done (by kernel_rfl) ?_ _
          replace HBW := Lib.hid (bnext HBW.out hb)
          clear ha hb HHI HC HGE
          go_wp2
          go_roundw
          case rel => exact ⟨j + 1, by omega, by go_num, HBW⟩
          case measure => simp [intOf]; omega
        · have hq : ¬ ((j : Int) < (Ra.length : Int)) := by omega
          go_wp2_with fail
          refine (HAW.out _).mono ?_
          rintro e we ⟨rfl, hbe⟩
          go_wp2
          go_ret
          exact ⟨rfl, bnext (bnext HB.out HBW.out) hbe⟩

end Go.Proofs.Ytdipheijagjelaa
