/-
  The law MemberUnion: it returns true. Conditions: the list of numbers reads.
-/
import Derived.Test.YtdipheijagjelaaGreatMLaw1
import Derived.Test.YtdipheijagjelaaGreatMUn
namespace Go.Proofs.YtdipheijagjelaaGreat
open Go.RowKit Go.Joins
open JM (Chg)
open CM (Fp)
open MM (Mem Ent Sm Tri)

/-- A summary's value by its lists and the summary. -/
abbrev svS (x y z : Value) (s : Sm) : Value := sv x y z s.k s.c s.f s.v s.a s.n

set_option maxRecDepth 100000 in
set_option linter.unusedSimpArgs false in
set_option maxHeartbeats 64000000 in
theorem lMemberUnion (n : Int) (v : Value) (l : List Int) (x y z : Int) (W : World) (h : RdI W v l) (hl : l.length ≤ 4611686018427387904) :
    Calls Tryz.prog 3 #[.int .i64 n, v, .int .i64 x, .int .i64 y, .int .i64 z] W fun e w' => e = .returned (.bool true) ∧ Below W.heap.size W w' := by
  have HG := Lib.hid (kGenesis n W)
  have HP := Lib.hid (fun w (hb : Below W.heap.size W w) => kPool v l w (h.below hb) hl)
  have HAW := Lib.hid (fun w => cAwake w)
  obtain ⟨ad, cp, rfl, _, _⟩ := h.shape
  clear h hl
  go_enter Tryz.func3, Tryz.ntmps3
  go_wp2_with fail
  refine HG.out.mono ?_
  rintro e w1 ⟨u, k, c, f, ms, rfl, hm, hg, hb1⟩
  obtain ⟨am, cm, hu, _, _⟩ := hm.shape
  have HM := Lib.hid hm
  have HB := Lib.hid hb1
  have HGZ := Lib.hid hg
  subst hu
  clear hm hb1 hg HG
  go_wp2_with fail
  refine (HP.out w1 HB.out).mono ?_
  rintro e w2 ⟨vp, fs, rfl, hpr, hok, hb2⟩
  obtain ⟨ap, cq, hvp, _, _⟩ := hpr.shape
  subst hvp
  have hp9 := hok.nine
  have HOK := Lib.hid hok
  -- the genesis' box
  obtain ⟨S0, hS0⟩ : ∃ o, o = gBox (.slice am ms.length cm) k c f := ⟨_, rfl⟩
  have hb3 := below_fresh w2 S0
  have hx3 := heap_alloc_new w2 S0
  obtain ⟨X, hX⟩ : ∃ X, X = w2.heap.size := ⟨_, rfl⟩
  rw [← hX] at hx3
  replace HM := Lib.hid (HM.out.below (bnext hb2 hb3))
  have HF := Lib.hid (hpr.below hb3)
  replace HB := Lib.hid (bnext (bnext HB.out hb2) hb3)
  generalize hw3 : w2.alloc S0 = w3 at hx3 HM HF HB
  rw [hS0] at hx3 hw3
  have HX := Lib.hid hx3
  have HW3 := Lib.hid (show w2.alloc (.cells #[.slice am ms.length cm, .int .i64 k, .int .i64 c, .int .i64 f] 27) = w3 from hw3)
  have HXE := Lib.hid hX
  clear hb2 hb3 hx3 hw3 hX hS0 S0 hpr hok HP
  go_upto_region 2 with fail
  rw [HW3.out, ← HXE.out]
  clear HW3 HXE
  have HPT := Lib.hid (kPart _ fs x w3 HF.out (by omega))
  go_wp2_with fail
  refine HPT.out.mono ?_
  rintro e w9 ⟨vaA, gA, rfl, har, hb4⟩
  obtain ⟨aA, cA, hva, _, _⟩ := har.shape
  subst hva
  replace HM := Lib.hid (HM.out.below hb4)
  replace HF := Lib.hid (HF.out.below hb4)
  replace HB := Lib.hid (bnext HB.out hb4)
  replace HX := Lib.hid (below_block HX.out hb4)
  have HA := Lib.hid har
  clear HPT har hb4
  obtain ⟨w3, hw3⟩ : ∃ w3, w3 = w9 := ⟨_, rfl⟩
  rw [← hw3] at HM HF HB HX HA ⊢
  clear hw3
  have HPT := Lib.hid (kPart _ fs y w3 HF.out (by omega))
  go_wp2_with fail
  refine HPT.out.mono ?_
  rintro e w9 ⟨vaB, gB, rfl, har, hb4⟩
  obtain ⟨aB, cB, hva, _, _⟩ := har.shape
  subst hva
  replace HA := Lib.hid (HA.out.below hb4)
  replace HM := Lib.hid (HM.out.below hb4)
  replace HF := Lib.hid (HF.out.below hb4)
  replace HB := Lib.hid (bnext HB.out hb4)
  replace HX := Lib.hid (below_block HX.out hb4)
  have HBp := Lib.hid har
  clear HPT har hb4
  obtain ⟨w3, hw3⟩ : ∃ w3, w3 = w9 := ⟨_, rfl⟩
  rw [← hw3] at HM HF HB HX HBp HA ⊢
  clear hw3
  have HPT := Lib.hid (kPart _ fs z w3 HF.out (by omega))
  go_wp2_with fail
  refine HPT.out.mono ?_
  rintro e w9 ⟨vaC, gC, rfl, har, hb4⟩
  obtain ⟨aC, cC, hva, _, _⟩ := har.shape
  subst hva
  replace HA := Lib.hid (HA.out.below hb4)
  replace HBp := Lib.hid (HBp.out.below hb4)
  replace HM := Lib.hid (HM.out.below hb4)
  replace HF := Lib.hid (HF.out.below hb4)
  replace HB := Lib.hid (bnext HB.out hb4)
  replace HX := Lib.hid (below_block HX.out hb4)
  have HC := Lib.hid har
  clear HPT har hb4
  obtain ⟨w3, hw3⟩ : ∃ w3, w3 = w9 := ⟨_, rfl⟩
  rw [← hw3] at HM HF HB HX HC HA HBp ⊢
  clear hw3
  have h9 : ∀ g, (CM.rs fs g).length ≤ 1000000 := fun g => by have := CM.rs_len fs g; omega
  have hml : ms.length ≤ 1000000 := by have := gen_len HGZ.out; omega
  obtain ⟨w4, hw4⟩ : ∃ w4, w4 = w3 := ⟨_, rfl⟩
  rw [← hw4] at HM HF HB HX HA HBp HC ⊢
  clear hw4
  have HS1 := Lib.hid (fun w (b : Below w4.heap.size w4 w) => cSummarize _ _ k c f ms (CM.rs fs gA) w (HM.out.below b) (HA.out.below b) HGZ.out hml (fun y hy => (HOK.out.rs gA).all y hy) (h9 gA))
  have HS2 := Lib.hid (fun w (b : Below w4.heap.size w4 w) => cSummarize _ _ k c f ms (CM.rs fs gB) w (HM.out.below b) (HBp.out.below b) HGZ.out hml (fun y hy => (HOK.out.rs gB).all y hy) (h9 gB))
  have HS3 := Lib.hid (fun w (b : Below w4.heap.size w4 w) => cSummarize _ _ k c f ms (CM.rs fs gC) w (HM.out.below b) (HC.out.below b) HGZ.out hml (fun y hy => (HOK.out.rs gC).all y hy) (h9 gC))
  have hun : ∀ y ∈ CM.un (CM.rs fs gA) (CM.rs fs gB), JM.errP y.1 y.2.1 y.2.2 = 0 := fun y hy => by
    rcases CM.un_mem hy with hy | hy
    · exact (HOK.out.rs gA).all y hy
    · exact (HOK.out.rs gB).all y hy
  have hul : (CM.un (CM.rs fs gA) (CM.rs fs gB)).length ≤ 1000000 := by
    have := CM.un_len (CM.rs fs gA) (CM.rs fs gB)
    have := CM.rs_len fs gA
    have := CM.rs_len fs gB
    omega
  have HSU := Lib.hid (fun w (vu : Value) (b : Below w4.heap.size w4 w) (hr : RdF w vu (CM.un (CM.rs fs gA) (CM.rs fs gB))) => cSummarize _ vu k c f ms _ w (HM.out.below b) hr HGZ.out hml hun hul)
  have HU := Lib.hid (fun w (b : Below w4.heap.size w4 w) => mUnion _ _ fs gA gB w HOK.out (HA.out.below b) (HBp.out.below b))
  have o1 := (part_sp HGZ.out HOK.out gA).ok
  have o2 := (part_sp HGZ.out HOK.out gB).ok
  have o3 := (part_sp HGZ.out HOK.out gC).ok
  have e1 := un_join HGZ.out HOK.out gA gB
  have e2 := un_comm HGZ.out HOK.out gA gB
  have e3 := un_self HGZ.out HOK.out gA
  have e4 := un_assoc HGZ.out HOK.out gA gB gC
  generalize MM.summ ms k c f (CM.un (CM.rs fs gA) (CM.rs fs gB)) = SU at HSU e1
  generalize CM.un (CM.rs fs gA) (CM.rs fs gB) = UN at HSU HU
  generalize MM.summ ms k c f (CM.rs fs gA) = S1 at HS1 o1 e1 e2 e3 e4
  generalize MM.summ ms k c f (CM.rs fs gB) = S2 at HS2 o2 e1 e2 e4
  generalize MM.summ ms k c f (CM.rs fs gC) = S3 at HS3 o3 e4
  have HL1 := Lib.hid (okS_len o1)
  have HL2 := Lib.hid (okS_len o2)
  have HL3 := Lib.hid (okS_len o3)
  have HL12 := Lib.hid (okS_len (MM.okS_join o1 o2))
  have HL23 := Lib.hid (okS_len (MM.okS_join o2 o3))
  have HE1 := Lib.hid e1
  have HE2 := Lib.hid e2
  have HE3 := Lib.hid e3
  have HE4 := Lib.hid e4
  have HJ := Lib.hid (fun w (s t : Sm) (hs : s.J.length ≤ 1000000 ∧ s.R.length ≤ 1000000 ∧ s.W.length ≤ 1000000) (ht : t.J.length ≤ 1000000 ∧ t.R.length ≤ 1000000 ∧ t.W.length ≤ 1000000) (v1 v2 : Value) (h1 : RdS w v1 s) (h2 : RdS w v2 t) => cJoin v1 v2 s t w h1 h2 hs ht)
  have HEQ := Lib.hid (fun w (s t : Sm) (he : s = t) (v1 v2 : Value) (h1 : RdS w v1 s) (h2 : RdS w v2 t) => by
    have := rEqSum v1 v2 s t w h1 h2
    rw [he, MM.eqS_self] at this
    exact this)
  clear o1 o2 o3 e1 e2 e3 e4 hun hul hml h9 hp9 HGZ HOK HM HF HA HBp HC
  generalize (CM.rs fs gA).length = lA at HS1 HU ⊢
  generalize (CM.rs fs gB).length = lB at HS2 HU ⊢
  generalize (CM.rs fs gC).length = lC at HS3 ⊢
  go_upto_region 3 with fail
  go_cut [16, 17, 18] from 32 to 40 (fun p16 p17 p18 wx => ∃ (X16 X17 X18 : Nat) (x1 y1 z1 x2 y2 z2 x3 y3 z3 : Value), p16 = .pointer (some ⟨X16, 0, none⟩) ∧ p17 = .pointer (some ⟨X17, 0, none⟩) ∧ p18 = .pointer (some ⟨X18, 0, none⟩) ∧ Hid (Below w4.heap.size w4 wx) ∧
    Hid (wx.heap[X16]? = some (.cells (s9 x1 y1 z1 S1.k S1.c S1.f S1.v S1.a S1.n) 35 (0, 0))) ∧ Hid (wx.heap[X17]? = some (.cells (s9 x2 y2 z2 S2.k S2.c S2.f S2.v S2.a S2.n) 35 (0, 0))) ∧ Hid (wx.heap[X18]? = some (.cells (s9 x3 y3 z3 S3.k S3.c S3.f S3.v S3.a S3.n) 35 (0, 0))) ∧
    Hid (RdS wx (svS x1 y1 z1 S1) S1) ∧ Hid (RdS wx (svS x2 y2 z2 S2) S2) ∧ Hid (RdS wx (svS x3 y3 z3 S3) S3))
  case first =>
    clear HL1 HL2 HL3 HL12 HL23 HE1 HE2 HE3 HE4 HJ HEQ HSU HU HAW
    refine wp_region_held_drew (S := fun w' => Below w4.heap.size w4 w') (by kernel_rfl) ((Below.refl _ _).drew) (fun ha => ?_)
    replace ha : Below w4.heap.size w4 w4.drew := (Below.refl _ _).drew
    generalize w4.drew = u0 at ha ⊢
    refine takeH (i := 0) (v := ?_) rfl (by kernel_rfl) (by kernel_rfl) (by kernel_rfl) (fun _ _ _ h => h) (Or.inl ⟨by rfl, ?_⟩) (by assumption) ?_
    rotate_left
    · (intro w hSw; (try dsimp only at hSw); obtain ⟨⟨q0, q1, q2, q3⟩, _⟩ := row4_at (below_block HX.out hSw); go_simp; first | done | with_reducible rfl)
    (try simp only [Act.put, List.setIfInBounds_toArray, List.set_cons_zero, List.set_cons_succ])
    refine takeH (i := 1) (v := ?_) rfl (by kernel_rfl) (by kernel_rfl) (by kernel_rfl) (fun _ _ _ h => h) (Or.inl ⟨by rfl, ?_⟩) (by assumption) ?_
    rotate_left
    · (intro w hSw; (try dsimp only at hSw); go_simp; first | done | with_reducible rfl)
    (try simp only [Act.put, List.setIfInBounds_toArray, List.set_cons_zero, List.set_cons_succ])
    refine takeH (i := 3) (v := ?_) rfl (by kernel_rfl) (by kernel_rfl) (by kernel_rfl) (fun _ _ _ h => h) (Or.inl ⟨by rfl, ?_⟩) (by assumption) ?_
    rotate_left
    · (intro w hSw; (try dsimp only at hSw); obtain ⟨⟨q0, q1, q2, q3⟩, _⟩ := row4_at (below_block HX.out hSw); go_simp; first | done | with_reducible rfl)
    (try simp only [Act.put, List.setIfInBounds_toArray, List.set_cons_zero, List.set_cons_succ])
    refine takeH (i := 4) (v := ?_) rfl (by kernel_rfl) (by kernel_rfl) (by kernel_rfl) (fun _ _ _ h => h) (Or.inl ⟨by rfl, ?_⟩) (by assumption) ?_
    rotate_left
    · (intro w hSw; (try dsimp only at hSw); go_simp; first | done | with_reducible rfl)
    (try simp only [Act.put, List.setIfInBounds_toArray, List.set_cons_zero, List.set_cons_succ])
    refine takeH (i := 6) (v := ?_) rfl (by kernel_rfl) (by kernel_rfl) (by kernel_rfl) (fun _ _ _ h => h) (Or.inl ⟨by rfl, ?_⟩) (by assumption) ?_
    rotate_left
    · (intro w hSw; (try dsimp only at hSw); obtain ⟨⟨q0, q1, q2, q3⟩, _⟩ := row4_at (below_block HX.out hSw); go_simp; first | done | with_reducible rfl)
    (try simp only [Act.put, List.setIfInBounds_toArray, List.set_cons_zero, List.set_cons_succ])
    refine takeH (i := 7) (v := ?_) rfl (by kernel_rfl) (by kernel_rfl) (by kernel_rfl) (fun _ _ _ h => h) (Or.inl ⟨by rfl, ?_⟩) (by assumption) ?_
    rotate_left
    · (intro w hSw; (try dsimp only at hSw); go_simp; first | done | with_reducible rfl)
    (try simp only [Act.put, List.setIfInBounds_toArray, List.set_cons_zero, List.set_cons_succ])
    refine wpH_cap (fun o q s t ho hq hs ht => ?_)
    replace ho := Lib.hid ho
    replace hq := Lib.hid hq
    replace hs := Lib.hid hs
    replace ht := Lib.hid ht
    have st3_012 := Lib.hid (show ∀ (X16 : Nat) (X17 : Nat) (X18 : Nat) (ax1 : Option Addr) (lx1 cx1 : Nat) (ay1 : Option Addr) (ly1 cy1 : Nat) (az1 : Option Addr) (lz1 cz1 : Nat) (ax2 : Option Addr) (lx2 cx2 : Nat) (ay2 : Option Addr) (ly2 cy2 : Nat) (az2 : Option Addr) (lz2 cz2 : Nat) (ax3 : Option Addr) (lx3 cx3 : Nat) (ay3 : Option Addr) (ly3 cy3 : Nat) (az3 : Option Addr) (lz3 cz3 : Nat) (u : World), Below w4.heap.size w4 u → Hid (u.heap[X16]? = some zBox) → X16 < u.heap.size → w4.heap.size ≤ X16 → Hid (u.heap[X17]? = some zBox) → X17 < u.heap.size → w4.heap.size ≤ X17 → Hid (u.heap[X18]? = some zBox) → X18 < u.heap.size → w4.heap.size ≤ X18 → X16 ≠ X17 → X16 ≠ X18 → X17 ≠ X18 → Hid (RsL [X16, X17, X18] u (svS (.slice ax1 lx1 cx1) (.slice ay1 ly1 cy1) (.slice az1 lz1 cz1) S1) S1) → Hid (RsL [X16, X17, X18] u (svS (.slice ax2 lx2 cx2) (.slice ay2 ly2 cy2) (.slice az2 lz2 cz2) S2) S2) → Hid (RsL [X16, X17, X18] u (svS (.slice ax3 lx3 cx3) (.slice ay3 ly3 cy3) (.slice az3 lz3 cz3) S3) S3) → wpAnyH Tryz.prog .any o q s 3 #[true, true, true, true, true, true, true, true, true, true, true, true, false, false, false] (Act.put (Act.put (Act.put (Act.put (Act.put (Act.put t (some 34) (svS (.slice ax1 lx1 cx1) (.slice ay1 ly1 cy1) (.slice az1 lz1 cz1) S1)) (some 37) (svS (.slice ax2 lx2 cx2) (.slice ay2 ly2 cy2) (.slice az2 lz2 cz2) S2)) (some 40) (svS (.slice ax3 lx3 cx3) (.slice ay3 ly3 cy3) (.slice az3 lz3 cz3) S3)) (some 16) (.pointer (some ⟨X16, 0, none⟩))) (some 17) (.pointer (some ⟨X17, 0, none⟩))) (some 18) (.pointer (some ⟨X18, 0, none⟩))) u from by
      intro X16 X17 X18 ax1 lx1 cx1 ay1 ly1 cy1 az1 lz1 cz1 ax2 lx2 cx2 ay2 ly2 cy2 az2 lz2 cz2 ax3 lx3 cx3 ay3 ly3 cy3 az3 lz3 cz3 u ha hx16 hl16 hg16 hx17 hl17 hg17 hx18 hl18 hg18 hn1617 hn1618 hn1718 hR1 hR2 hR3
      rw [ho.out, hq.out, hs.out, ht.out]
      (try simp only [Act.put, List.setIfInBounds_toArray, List.set_cons_zero, List.set_cons_succ])
      refine wpAnyH_ready (rs := [12]) (by kernel_rfl) (by simp) ?_
      refine stepH rfl (fun K hK => ?_) AllReadyH.nil
      obtain ⟨⟨z0, z1, z2, z3, z4, z5, z6, z7, z8⟩, f0, f1, f2, f3, f4, f5, f6, f7, f8⟩ := row9_at hx16.out
      go_simp
      clear z0 z1 z2 z3 z4 z5 z6 z7 z8 f0 f1 f2 f3 f4 f5 f6 f7 f8
      have hput := row9_put hx16.out (.slice ax1 lx1 cx1) (.slice ay1 ly1 cy1) (.slice az1 lz1 cz1) (.int .i64 S1.k) (.int .i64 S1.c) (.int .i64 S1.f) (.int .i64 S1.v) (.int .i64 S1.a) (.int .i64 S1.n) w4.heap.size hg16
      have hon := onlyc9 (w := u) (g := X16) (.slice ax1 lx1 cx1) (.slice ay1 ly1 cy1) (.slice az1 lz1 cz1) (.int .i64 S1.k) (.int .i64 S1.c) (.int .i64 S1.f) (.int .i64 S1.v) (.int .i64 S1.a) (.int .i64 S1.n)
      replace hR1 := Lib.hid (hR1.out.put hon (by simp))
      replace hR2 := Lib.hid (hR2.out.put hon (by simp))
      replace hR3 := Lib.hid (hR3.out.put hon (by simp))
      replace hx17 := Lib.hid (hon.at hx17.out (Ne.symm hn1617))
      replace hx18 := Lib.hid (hon.at hx18.out (Ne.symm hn1618))
      replace hx16 := Lib.hid hput.1
      have hp2 := hput.2
      replace ha := ha.trans hp2
      refine hK.out _ _ (ha) (fun _ => ?_)
      clear hK K
      (try simp only [Act.put, List.setIfInBounds_toArray, List.set_cons_zero, List.set_cons_succ])
      clear hput hon hp2
      generalize (((((((((u.setCell ⟨X16, 0, none⟩ (.slice ax1 lx1 cx1)).setCell ⟨X16, 1, none⟩ (.slice ay1 ly1 cy1)).setCell ⟨X16, 2, none⟩ (.slice az1 lz1 cz1)).setCell ⟨X16, 3, none⟩ (.int .i64 S1.k)).setCell ⟨X16, 4, none⟩ (.int .i64 S1.c)).setCell ⟨X16, 5, none⟩ (.int .i64 S1.f)).setCell ⟨X16, 6, none⟩ (.int .i64 S1.v)).setCell ⟨X16, 7, none⟩ (.int .i64 S1.a)).setCell ⟨X16, 8, none⟩ (.int .i64 S1.n)) = w81 at ha hR1 hR2 hR3 hx16 hx17 hx18 ⊢
      refine wpAnyH_ready (rs := [13]) (by kernel_rfl) (by simp) ?_
      refine stepH rfl (fun K hK => ?_) AllReadyH.nil
      obtain ⟨⟨z0, z1, z2, z3, z4, z5, z6, z7, z8⟩, f0, f1, f2, f3, f4, f5, f6, f7, f8⟩ := row9_at hx17.out
      go_simp
      clear z0 z1 z2 z3 z4 z5 z6 z7 z8 f0 f1 f2 f3 f4 f5 f6 f7 f8
      have hput := row9_put hx17.out (.slice ax2 lx2 cx2) (.slice ay2 ly2 cy2) (.slice az2 lz2 cz2) (.int .i64 S2.k) (.int .i64 S2.c) (.int .i64 S2.f) (.int .i64 S2.v) (.int .i64 S2.a) (.int .i64 S2.n) w4.heap.size hg17
      have hon := onlyc9 (w := w81) (g := X17) (.slice ax2 lx2 cx2) (.slice ay2 ly2 cy2) (.slice az2 lz2 cz2) (.int .i64 S2.k) (.int .i64 S2.c) (.int .i64 S2.f) (.int .i64 S2.v) (.int .i64 S2.a) (.int .i64 S2.n)
      replace hR1 := Lib.hid (hR1.out.put hon (by simp))
      replace hR2 := Lib.hid (hR2.out.put hon (by simp))
      replace hR3 := Lib.hid (hR3.out.put hon (by simp))
      replace hx16 := Lib.hid (hon.at hx16.out hn1617)
      replace hx18 := Lib.hid (hon.at hx18.out (Ne.symm hn1718))
      replace hx17 := Lib.hid hput.1
      have hp2 := hput.2
      replace ha := ha.trans hp2
      refine hK.out _ _ (ha) (fun _ => ?_)
      clear hK K
      (try simp only [Act.put, List.setIfInBounds_toArray, List.set_cons_zero, List.set_cons_succ])
      clear hput hon hp2
      generalize (((((((((w81.setCell ⟨X17, 0, none⟩ (.slice ax2 lx2 cx2)).setCell ⟨X17, 1, none⟩ (.slice ay2 ly2 cy2)).setCell ⟨X17, 2, none⟩ (.slice az2 lz2 cz2)).setCell ⟨X17, 3, none⟩ (.int .i64 S2.k)).setCell ⟨X17, 4, none⟩ (.int .i64 S2.c)).setCell ⟨X17, 5, none⟩ (.int .i64 S2.f)).setCell ⟨X17, 6, none⟩ (.int .i64 S2.v)).setCell ⟨X17, 7, none⟩ (.int .i64 S2.a)).setCell ⟨X17, 8, none⟩ (.int .i64 S2.n)) = w82 at ha hR1 hR2 hR3 hx16 hx17 hx18 ⊢
      refine wpAnyH_ready (rs := [14]) (by kernel_rfl) (by simp) ?_
      refine stepH rfl (fun K hK => ?_) AllReadyH.nil
      obtain ⟨⟨z0, z1, z2, z3, z4, z5, z6, z7, z8⟩, f0, f1, f2, f3, f4, f5, f6, f7, f8⟩ := row9_at hx18.out
      go_simp
      clear z0 z1 z2 z3 z4 z5 z6 z7 z8 f0 f1 f2 f3 f4 f5 f6 f7 f8
      have hput := row9_put hx18.out (.slice ax3 lx3 cx3) (.slice ay3 ly3 cy3) (.slice az3 lz3 cz3) (.int .i64 S3.k) (.int .i64 S3.c) (.int .i64 S3.f) (.int .i64 S3.v) (.int .i64 S3.a) (.int .i64 S3.n) w4.heap.size hg18
      have hon := onlyc9 (w := w82) (g := X18) (.slice ax3 lx3 cx3) (.slice ay3 ly3 cy3) (.slice az3 lz3 cz3) (.int .i64 S3.k) (.int .i64 S3.c) (.int .i64 S3.f) (.int .i64 S3.v) (.int .i64 S3.a) (.int .i64 S3.n)
      replace hR1 := Lib.hid (hR1.out.put hon (by simp))
      replace hR2 := Lib.hid (hR2.out.put hon (by simp))
      replace hR3 := Lib.hid (hR3.out.put hon (by simp))
      replace hx16 := Lib.hid (hon.at hx16.out hn1618)
      replace hx17 := Lib.hid (hon.at hx17.out hn1718)
      replace hx18 := Lib.hid hput.1
      have hp2 := hput.2
      replace ha := ha.trans hp2
      refine hK.out _ _ (ha) (fun _ => ?_)
      clear hK K
      (try simp only [Act.put, List.setIfInBounds_toArray, List.set_cons_zero, List.set_cons_succ])
      clear hput hon hp2
      generalize (((((((((w82.setCell ⟨X18, 0, none⟩ (.slice ax3 lx3 cx3)).setCell ⟨X18, 1, none⟩ (.slice ay3 ly3 cy3)).setCell ⟨X18, 2, none⟩ (.slice az3 lz3 cz3)).setCell ⟨X18, 3, none⟩ (.int .i64 S3.k)).setCell ⟨X18, 4, none⟩ (.int .i64 S3.c)).setCell ⟨X18, 5, none⟩ (.int .i64 S3.f)).setCell ⟨X18, 6, none⟩ (.int .i64 S3.v)).setCell ⟨X18, 7, none⟩ (.int .i64 S3.a)).setCell ⟨X18, 8, none⟩ (.int .i64 S3.n)) = w83 at ha hR1 hR2 hR3 hx16 hx17 hx18 ⊢
      refine wpAnyH_done (by kernel_rfl) ?_ _
      go_wp2
      go_meet
      exact ⟨X16, X17, X18, _, _, _, _, _, _, _, _, _, rfl, rfl, rfl, Lib.hid ha, hx16, hx17, hx18, Lib.hid hR1.out.rd, Lib.hid hR2.out.rd, Lib.hid hR3.out.rd⟩)
    have st3_01 := Lib.hid (show ∀ (X16 : Nat) (X17 : Nat) (ax1 : Option Addr) (lx1 cx1 : Nat) (ay1 : Option Addr) (ly1 cy1 : Nat) (az1 : Option Addr) (lz1 cz1 : Nat) (ax2 : Option Addr) (lx2 cx2 : Nat) (ay2 : Option Addr) (ly2 cy2 : Nat) (az2 : Option Addr) (lz2 cz2 : Nat) (ax3 : Option Addr) (lx3 cx3 : Nat) (ay3 : Option Addr) (ly3 cy3 : Nat) (az3 : Option Addr) (lz3 cz3 : Nat) (u : World), Below w4.heap.size w4 u → Hid (u.heap[X16]? = some zBox) → X16 < u.heap.size → w4.heap.size ≤ X16 → Hid (u.heap[X17]? = some zBox) → X17 < u.heap.size → w4.heap.size ≤ X17 → X16 ≠ X17 → Hid (RsL [X16, X17] u (svS (.slice ax1 lx1 cx1) (.slice ay1 ly1 cy1) (.slice az1 lz1 cz1) S1) S1) → Hid (RsL [X16, X17] u (svS (.slice ax2 lx2 cx2) (.slice ay2 ly2 cy2) (.slice az2 lz2 cz2) S2) S2) → Hid (RsL [X16, X17] u (svS (.slice ax3 lx3 cx3) (.slice ay3 ly3 cy3) (.slice az3 lz3 cz3) S3) S3) → wpAnyH Tryz.prog .any o q s 4 #[true, true, true, true, true, true, true, true, true, true, true, false, false, false, false] (Act.put (Act.put (Act.put (Act.put (Act.put t (some 34) (svS (.slice ax1 lx1 cx1) (.slice ay1 ly1 cy1) (.slice az1 lz1 cz1) S1)) (some 37) (svS (.slice ax2 lx2 cx2) (.slice ay2 ly2 cy2) (.slice az2 lz2 cz2) S2)) (some 40) (svS (.slice ax3 lx3 cx3) (.slice ay3 ly3 cy3) (.slice az3 lz3 cz3) S3)) (some 16) (.pointer (some ⟨X16, 0, none⟩))) (some 17) (.pointer (some ⟨X17, 0, none⟩))) u from by
      intro X16 X17 ax1 lx1 cx1 ay1 ly1 cy1 az1 lz1 cz1 ax2 lx2 cx2 ay2 ly2 cy2 az2 lz2 cz2 ax3 lx3 cx3 ay3 ly3 cy3 az3 lz3 cz3 u ha hx16 hl16 hg16 hx17 hl17 hg17 hn1617 hR1 hR2 hR3
      rw [ho.out, hq.out, hs.out, ht.out]
      (try simp only [Act.put, List.setIfInBounds_toArray, List.set_cons_zero, List.set_cons_succ])
      refine wpAnyH_ready (rs := [11]) (by kernel_rfl) (by simp) ?_
      refine stepH rfl (fun K hK => ?_) AllReadyH.nil
      go_simp
      have hb := below_fresh u zBox
      have hx18 := heap_alloc_new u zBox
      have hz := World.size_alloc u zBox
      have hg18 : w4.heap.size ≤ u.heap.size := ha.size
      replace hR1 := Lib.hid (hR1.out.new hb)
      replace hR2 := Lib.hid (hR2.out.new hb)
      replace hR3 := Lib.hid (hR3.out.new hb)
      replace hx16 := Lib.hid (below_block hx16.out hb)
      have hn1618 : X16 ≠ u.heap.size := by omega
      replace hl16 : X16 < (u.alloc zBox).heap.size := by omega
      replace hx17 := Lib.hid (below_block hx17.out hb)
      have hn1718 : X17 ≠ u.heap.size := by omega
      replace hl17 : X17 < (u.alloc zBox).heap.size := by omega
      have hl18 : u.heap.size < (u.alloc zBox).heap.size := by omega
      replace ha := bnext ha hb
      refine hK.out _ _ (ha) (fun _ => ?_)
      clear hK K
      (try simp only [Act.put, List.setIfInBounds_toArray, List.set_cons_zero, List.set_cons_succ])
      clear hb hz
      generalize u.alloc zBox = w8 at hx18 hl18 ha hR1 hR2 hR3 hx16 hl16 hx17 hl17 ⊢
      generalize u.heap.size = X18 at hx18 hl18 hg18 hR1 hR2 hR3 hn1618 hn1718 ⊢
      replace hx18 := Lib.hid hx18
      replace hR1 := Lib.hid (hR1.out.sub (L' := [X16, X17, X18]) (by intro k hk; simp at hk ⊢; omega))
      replace hR2 := Lib.hid (hR2.out.sub (L' := [X16, X17, X18]) (by intro k hk; simp at hk ⊢; omega))
      replace hR3 := Lib.hid (hR3.out.sub (L' := [X16, X17, X18]) (by intro k hk; simp at hk ⊢; omega))
      refine wpH_cong ho.out hq.out hs.out ?_ ?_ (st3_012.out X16 X17 X18 _ _ _ _ _ _ _ _ _ _ _ _ _ _ _ _ _ _ _ _ _ _ _ _ _ _ _ _ ha hx16 hl16 hg16 hx17 hl17 hg17 hx18 hl18 hg18 hn1617 hn1618 hn1718 hR1 hR2 hR3)
      · kernel_rfl
      · (rw [ht.out]; simp only [Act.put, List.setIfInBounds_toArray, List.set_cons_zero, List.set_cons_succ]))
    have st3_02 := Lib.hid (show ∀ (X16 : Nat) (X18 : Nat) (ax1 : Option Addr) (lx1 cx1 : Nat) (ay1 : Option Addr) (ly1 cy1 : Nat) (az1 : Option Addr) (lz1 cz1 : Nat) (ax2 : Option Addr) (lx2 cx2 : Nat) (ay2 : Option Addr) (ly2 cy2 : Nat) (az2 : Option Addr) (lz2 cz2 : Nat) (ax3 : Option Addr) (lx3 cx3 : Nat) (ay3 : Option Addr) (ly3 cy3 : Nat) (az3 : Option Addr) (lz3 cz3 : Nat) (u : World), Below w4.heap.size w4 u → Hid (u.heap[X16]? = some zBox) → X16 < u.heap.size → w4.heap.size ≤ X16 → Hid (u.heap[X18]? = some zBox) → X18 < u.heap.size → w4.heap.size ≤ X18 → X16 ≠ X18 → Hid (RsL [X16, X18] u (svS (.slice ax1 lx1 cx1) (.slice ay1 ly1 cy1) (.slice az1 lz1 cz1) S1) S1) → Hid (RsL [X16, X18] u (svS (.slice ax2 lx2 cx2) (.slice ay2 ly2 cy2) (.slice az2 lz2 cz2) S2) S2) → Hid (RsL [X16, X18] u (svS (.slice ax3 lx3 cx3) (.slice ay3 ly3 cy3) (.slice az3 lz3 cz3) S3) S3) → wpAnyH Tryz.prog .any o q s 4 #[true, true, true, true, true, true, true, true, true, true, false, true, false, false, false] (Act.put (Act.put (Act.put (Act.put (Act.put t (some 34) (svS (.slice ax1 lx1 cx1) (.slice ay1 ly1 cy1) (.slice az1 lz1 cz1) S1)) (some 37) (svS (.slice ax2 lx2 cx2) (.slice ay2 ly2 cy2) (.slice az2 lz2 cz2) S2)) (some 40) (svS (.slice ax3 lx3 cx3) (.slice ay3 ly3 cy3) (.slice az3 lz3 cz3) S3)) (some 16) (.pointer (some ⟨X16, 0, none⟩))) (some 18) (.pointer (some ⟨X18, 0, none⟩))) u from by
      intro X16 X18 ax1 lx1 cx1 ay1 ly1 cy1 az1 lz1 cz1 ax2 lx2 cx2 ay2 ly2 cy2 az2 lz2 cz2 ax3 lx3 cx3 ay3 ly3 cy3 az3 lz3 cz3 u ha hx16 hl16 hg16 hx18 hl18 hg18 hn1618 hR1 hR2 hR3
      rw [ho.out, hq.out, hs.out, ht.out]
      (try simp only [Act.put, List.setIfInBounds_toArray, List.set_cons_zero, List.set_cons_succ])
      refine wpAnyH_ready (rs := [10]) (by kernel_rfl) (by simp) ?_
      refine stepH rfl (fun K hK => ?_) AllReadyH.nil
      go_simp
      have hb := below_fresh u zBox
      have hx17 := heap_alloc_new u zBox
      have hz := World.size_alloc u zBox
      have hg17 : w4.heap.size ≤ u.heap.size := ha.size
      replace hR1 := Lib.hid (hR1.out.new hb)
      replace hR2 := Lib.hid (hR2.out.new hb)
      replace hR3 := Lib.hid (hR3.out.new hb)
      replace hx16 := Lib.hid (below_block hx16.out hb)
      have hn1617 : X16 ≠ u.heap.size := by omega
      replace hl16 : X16 < (u.alloc zBox).heap.size := by omega
      replace hx18 := Lib.hid (below_block hx18.out hb)
      have hn1718 : u.heap.size ≠ X18 := by omega
      replace hl18 : X18 < (u.alloc zBox).heap.size := by omega
      have hl17 : u.heap.size < (u.alloc zBox).heap.size := by omega
      replace ha := bnext ha hb
      refine hK.out _ _ (ha) (fun _ => ?_)
      clear hK K
      (try simp only [Act.put, List.setIfInBounds_toArray, List.set_cons_zero, List.set_cons_succ])
      clear hb hz
      generalize u.alloc zBox = w8 at hx17 hl17 ha hR1 hR2 hR3 hx16 hl16 hx18 hl18 ⊢
      generalize u.heap.size = X17 at hx17 hl17 hg17 hR1 hR2 hR3 hn1617 hn1718 ⊢
      replace hx17 := Lib.hid hx17
      replace hR1 := Lib.hid (hR1.out.sub (L' := [X16, X17, X18]) (by intro k hk; simp at hk ⊢; omega))
      replace hR2 := Lib.hid (hR2.out.sub (L' := [X16, X17, X18]) (by intro k hk; simp at hk ⊢; omega))
      replace hR3 := Lib.hid (hR3.out.sub (L' := [X16, X17, X18]) (by intro k hk; simp at hk ⊢; omega))
      refine wpH_cong ho.out hq.out hs.out ?_ ?_ (st3_012.out X16 X17 X18 _ _ _ _ _ _ _ _ _ _ _ _ _ _ _ _ _ _ _ _ _ _ _ _ _ _ _ _ ha hx16 hl16 hg16 hx17 hl17 hg17 hx18 hl18 hg18 hn1617 hn1618 hn1718 hR1 hR2 hR3)
      · kernel_rfl
      · (rw [ht.out]; simp only [Act.put, List.setIfInBounds_toArray, List.set_cons_zero, List.set_cons_succ]))
    have st3_12 := Lib.hid (show ∀ (X17 : Nat) (X18 : Nat) (ax1 : Option Addr) (lx1 cx1 : Nat) (ay1 : Option Addr) (ly1 cy1 : Nat) (az1 : Option Addr) (lz1 cz1 : Nat) (ax2 : Option Addr) (lx2 cx2 : Nat) (ay2 : Option Addr) (ly2 cy2 : Nat) (az2 : Option Addr) (lz2 cz2 : Nat) (ax3 : Option Addr) (lx3 cx3 : Nat) (ay3 : Option Addr) (ly3 cy3 : Nat) (az3 : Option Addr) (lz3 cz3 : Nat) (u : World), Below w4.heap.size w4 u → Hid (u.heap[X17]? = some zBox) → X17 < u.heap.size → w4.heap.size ≤ X17 → Hid (u.heap[X18]? = some zBox) → X18 < u.heap.size → w4.heap.size ≤ X18 → X17 ≠ X18 → Hid (RsL [X17, X18] u (svS (.slice ax1 lx1 cx1) (.slice ay1 ly1 cy1) (.slice az1 lz1 cz1) S1) S1) → Hid (RsL [X17, X18] u (svS (.slice ax2 lx2 cx2) (.slice ay2 ly2 cy2) (.slice az2 lz2 cz2) S2) S2) → Hid (RsL [X17, X18] u (svS (.slice ax3 lx3 cx3) (.slice ay3 ly3 cy3) (.slice az3 lz3 cz3) S3) S3) → wpAnyH Tryz.prog .any o q s 4 #[true, true, true, true, true, true, true, true, true, false, true, true, false, false, false] (Act.put (Act.put (Act.put (Act.put (Act.put t (some 34) (svS (.slice ax1 lx1 cx1) (.slice ay1 ly1 cy1) (.slice az1 lz1 cz1) S1)) (some 37) (svS (.slice ax2 lx2 cx2) (.slice ay2 ly2 cy2) (.slice az2 lz2 cz2) S2)) (some 40) (svS (.slice ax3 lx3 cx3) (.slice ay3 ly3 cy3) (.slice az3 lz3 cz3) S3)) (some 17) (.pointer (some ⟨X17, 0, none⟩))) (some 18) (.pointer (some ⟨X18, 0, none⟩))) u from by
      intro X17 X18 ax1 lx1 cx1 ay1 ly1 cy1 az1 lz1 cz1 ax2 lx2 cx2 ay2 ly2 cy2 az2 lz2 cz2 ax3 lx3 cx3 ay3 ly3 cy3 az3 lz3 cz3 u ha hx17 hl17 hg17 hx18 hl18 hg18 hn1718 hR1 hR2 hR3
      rw [ho.out, hq.out, hs.out, ht.out]
      (try simp only [Act.put, List.setIfInBounds_toArray, List.set_cons_zero, List.set_cons_succ])
      refine wpAnyH_ready (rs := [9]) (by kernel_rfl) (by simp) ?_
      refine stepH rfl (fun K hK => ?_) AllReadyH.nil
      go_simp
      have hb := below_fresh u zBox
      have hx16 := heap_alloc_new u zBox
      have hz := World.size_alloc u zBox
      have hg16 : w4.heap.size ≤ u.heap.size := ha.size
      replace hR1 := Lib.hid (hR1.out.new hb)
      replace hR2 := Lib.hid (hR2.out.new hb)
      replace hR3 := Lib.hid (hR3.out.new hb)
      replace hx17 := Lib.hid (below_block hx17.out hb)
      have hn1617 : u.heap.size ≠ X17 := by omega
      replace hl17 : X17 < (u.alloc zBox).heap.size := by omega
      replace hx18 := Lib.hid (below_block hx18.out hb)
      have hn1618 : u.heap.size ≠ X18 := by omega
      replace hl18 : X18 < (u.alloc zBox).heap.size := by omega
      have hl16 : u.heap.size < (u.alloc zBox).heap.size := by omega
      replace ha := bnext ha hb
      refine hK.out _ _ (ha) (fun _ => ?_)
      clear hK K
      (try simp only [Act.put, List.setIfInBounds_toArray, List.set_cons_zero, List.set_cons_succ])
      clear hb hz
      generalize u.alloc zBox = w8 at hx16 hl16 ha hR1 hR2 hR3 hx17 hl17 hx18 hl18 ⊢
      generalize u.heap.size = X16 at hx16 hl16 hg16 hR1 hR2 hR3 hn1617 hn1618 ⊢
      replace hx16 := Lib.hid hx16
      replace hR1 := Lib.hid (hR1.out.sub (L' := [X16, X17, X18]) (by intro k hk; simp at hk ⊢; omega))
      replace hR2 := Lib.hid (hR2.out.sub (L' := [X16, X17, X18]) (by intro k hk; simp at hk ⊢; omega))
      replace hR3 := Lib.hid (hR3.out.sub (L' := [X16, X17, X18]) (by intro k hk; simp at hk ⊢; omega))
      refine wpH_cong ho.out hq.out hs.out ?_ ?_ (st3_012.out X16 X17 X18 _ _ _ _ _ _ _ _ _ _ _ _ _ _ _ _ _ _ _ _ _ _ _ _ _ _ _ _ ha hx16 hl16 hg16 hx17 hl17 hg17 hx18 hl18 hg18 hn1617 hn1618 hn1718 hR1 hR2 hR3)
      · kernel_rfl
      · (rw [ht.out]; simp only [Act.put, List.setIfInBounds_toArray, List.set_cons_zero, List.set_cons_succ]))
    have st3_0 := Lib.hid (show ∀ (X16 : Nat) (ax1 : Option Addr) (lx1 cx1 : Nat) (ay1 : Option Addr) (ly1 cy1 : Nat) (az1 : Option Addr) (lz1 cz1 : Nat) (ax2 : Option Addr) (lx2 cx2 : Nat) (ay2 : Option Addr) (ly2 cy2 : Nat) (az2 : Option Addr) (lz2 cz2 : Nat) (ax3 : Option Addr) (lx3 cx3 : Nat) (ay3 : Option Addr) (ly3 cy3 : Nat) (az3 : Option Addr) (lz3 cz3 : Nat) (u : World), Below w4.heap.size w4 u → Hid (u.heap[X16]? = some zBox) → X16 < u.heap.size → w4.heap.size ≤ X16 → Hid (RsL [X16] u (svS (.slice ax1 lx1 cx1) (.slice ay1 ly1 cy1) (.slice az1 lz1 cz1) S1) S1) → Hid (RsL [X16] u (svS (.slice ax2 lx2 cx2) (.slice ay2 ly2 cy2) (.slice az2 lz2 cz2) S2) S2) → Hid (RsL [X16] u (svS (.slice ax3 lx3 cx3) (.slice ay3 ly3 cy3) (.slice az3 lz3 cz3) S3) S3) → wpAnyH Tryz.prog .any o q s 5 #[true, true, true, true, true, true, true, true, true, true, false, false, false, false, false] (Act.put (Act.put (Act.put (Act.put t (some 34) (svS (.slice ax1 lx1 cx1) (.slice ay1 ly1 cy1) (.slice az1 lz1 cz1) S1)) (some 37) (svS (.slice ax2 lx2 cx2) (.slice ay2 ly2 cy2) (.slice az2 lz2 cz2) S2)) (some 40) (svS (.slice ax3 lx3 cx3) (.slice ay3 ly3 cy3) (.slice az3 lz3 cz3) S3)) (some 16) (.pointer (some ⟨X16, 0, none⟩))) u from by
      intro X16 ax1 lx1 cx1 ay1 ly1 cy1 az1 lz1 cz1 ax2 lx2 cx2 ay2 ly2 cy2 az2 lz2 cz2 ax3 lx3 cx3 ay3 ly3 cy3 az3 lz3 cz3 u ha hx16 hl16 hg16 hR1 hR2 hR3
      rw [ho.out, hq.out, hs.out, ht.out]
      (try simp only [Act.put, List.setIfInBounds_toArray, List.set_cons_zero, List.set_cons_succ])
      refine wpAnyH_ready (rs := [10, 11]) (by kernel_rfl) (by simp) ?_
      refine stepH rfl (fun K hK => ?_) (stepH rfl (fun K hK => ?_) AllReadyH.nil)
      · go_simp
        have hb := below_fresh u zBox
        have hx17 := heap_alloc_new u zBox
        have hz := World.size_alloc u zBox
        have hg17 : w4.heap.size ≤ u.heap.size := ha.size
        replace hR1 := Lib.hid (hR1.out.new hb)
        replace hR2 := Lib.hid (hR2.out.new hb)
        replace hR3 := Lib.hid (hR3.out.new hb)
        replace hx16 := Lib.hid (below_block hx16.out hb)
        have hn1617 : X16 ≠ u.heap.size := by omega
        replace hl16 : X16 < (u.alloc zBox).heap.size := by omega
        have hl17 : u.heap.size < (u.alloc zBox).heap.size := by omega
        replace ha := bnext ha hb
        refine hK.out _ _ (ha) (fun _ => ?_)
        clear hK K
        (try simp only [Act.put, List.setIfInBounds_toArray, List.set_cons_zero, List.set_cons_succ])
        clear hb hz
        generalize u.alloc zBox = w8 at hx17 hl17 ha hR1 hR2 hR3 hx16 hl16 ⊢
        generalize u.heap.size = X17 at hx17 hl17 hg17 hR1 hR2 hR3 hn1617 ⊢
        replace hx17 := Lib.hid hx17
        replace hR1 := Lib.hid (hR1.out.sub (L' := [X16, X17]) (by intro k hk; simp at hk ⊢; omega))
        replace hR2 := Lib.hid (hR2.out.sub (L' := [X16, X17]) (by intro k hk; simp at hk ⊢; omega))
        replace hR3 := Lib.hid (hR3.out.sub (L' := [X16, X17]) (by intro k hk; simp at hk ⊢; omega))
        refine wpH_cong ho.out hq.out hs.out ?_ ?_ (st3_01.out X16 X17 _ _ _ _ _ _ _ _ _ _ _ _ _ _ _ _ _ _ _ _ _ _ _ _ _ _ _ _ ha hx16 hl16 hg16 hx17 hl17 hg17 hn1617 hR1 hR2 hR3)
        · kernel_rfl
        · (rw [ht.out]; simp only [Act.put, List.setIfInBounds_toArray, List.set_cons_zero, List.set_cons_succ])
      · go_simp
        have hb := below_fresh u zBox
        have hx18 := heap_alloc_new u zBox
        have hz := World.size_alloc u zBox
        have hg18 : w4.heap.size ≤ u.heap.size := ha.size
        replace hR1 := Lib.hid (hR1.out.new hb)
        replace hR2 := Lib.hid (hR2.out.new hb)
        replace hR3 := Lib.hid (hR3.out.new hb)
        replace hx16 := Lib.hid (below_block hx16.out hb)
        have hn1618 : X16 ≠ u.heap.size := by omega
        replace hl16 : X16 < (u.alloc zBox).heap.size := by omega
        have hl18 : u.heap.size < (u.alloc zBox).heap.size := by omega
        replace ha := bnext ha hb
        refine hK.out _ _ (ha) (fun _ => ?_)
        clear hK K
        (try simp only [Act.put, List.setIfInBounds_toArray, List.set_cons_zero, List.set_cons_succ])
        clear hb hz
        generalize u.alloc zBox = w8 at hx18 hl18 ha hR1 hR2 hR3 hx16 hl16 ⊢
        generalize u.heap.size = X18 at hx18 hl18 hg18 hR1 hR2 hR3 hn1618 ⊢
        replace hx18 := Lib.hid hx18
        replace hR1 := Lib.hid (hR1.out.sub (L' := [X16, X18]) (by intro k hk; simp at hk ⊢; omega))
        replace hR2 := Lib.hid (hR2.out.sub (L' := [X16, X18]) (by intro k hk; simp at hk ⊢; omega))
        replace hR3 := Lib.hid (hR3.out.sub (L' := [X16, X18]) (by intro k hk; simp at hk ⊢; omega))
        refine wpH_cong ho.out hq.out hs.out ?_ ?_ (st3_02.out X16 X18 _ _ _ _ _ _ _ _ _ _ _ _ _ _ _ _ _ _ _ _ _ _ _ _ _ _ _ _ ha hx16 hl16 hg16 hx18 hl18 hg18 hn1618 hR1 hR2 hR3)
        · kernel_rfl
        · (rw [ht.out]; simp only [Act.put, List.setIfInBounds_toArray, List.set_cons_zero, List.set_cons_succ]))
    have st3_1 := Lib.hid (show ∀ (X17 : Nat) (ax1 : Option Addr) (lx1 cx1 : Nat) (ay1 : Option Addr) (ly1 cy1 : Nat) (az1 : Option Addr) (lz1 cz1 : Nat) (ax2 : Option Addr) (lx2 cx2 : Nat) (ay2 : Option Addr) (ly2 cy2 : Nat) (az2 : Option Addr) (lz2 cz2 : Nat) (ax3 : Option Addr) (lx3 cx3 : Nat) (ay3 : Option Addr) (ly3 cy3 : Nat) (az3 : Option Addr) (lz3 cz3 : Nat) (u : World), Below w4.heap.size w4 u → Hid (u.heap[X17]? = some zBox) → X17 < u.heap.size → w4.heap.size ≤ X17 → Hid (RsL [X17] u (svS (.slice ax1 lx1 cx1) (.slice ay1 ly1 cy1) (.slice az1 lz1 cz1) S1) S1) → Hid (RsL [X17] u (svS (.slice ax2 lx2 cx2) (.slice ay2 ly2 cy2) (.slice az2 lz2 cz2) S2) S2) → Hid (RsL [X17] u (svS (.slice ax3 lx3 cx3) (.slice ay3 ly3 cy3) (.slice az3 lz3 cz3) S3) S3) → wpAnyH Tryz.prog .any o q s 5 #[true, true, true, true, true, true, true, true, true, false, true, false, false, false, false] (Act.put (Act.put (Act.put (Act.put t (some 34) (svS (.slice ax1 lx1 cx1) (.slice ay1 ly1 cy1) (.slice az1 lz1 cz1) S1)) (some 37) (svS (.slice ax2 lx2 cx2) (.slice ay2 ly2 cy2) (.slice az2 lz2 cz2) S2)) (some 40) (svS (.slice ax3 lx3 cx3) (.slice ay3 ly3 cy3) (.slice az3 lz3 cz3) S3)) (some 17) (.pointer (some ⟨X17, 0, none⟩))) u from by
      intro X17 ax1 lx1 cx1 ay1 ly1 cy1 az1 lz1 cz1 ax2 lx2 cx2 ay2 ly2 cy2 az2 lz2 cz2 ax3 lx3 cx3 ay3 ly3 cy3 az3 lz3 cz3 u ha hx17 hl17 hg17 hR1 hR2 hR3
      rw [ho.out, hq.out, hs.out, ht.out]
      (try simp only [Act.put, List.setIfInBounds_toArray, List.set_cons_zero, List.set_cons_succ])
      refine wpAnyH_ready (rs := [9, 11]) (by kernel_rfl) (by simp) ?_
      refine stepH rfl (fun K hK => ?_) (stepH rfl (fun K hK => ?_) AllReadyH.nil)
      · go_simp
        have hb := below_fresh u zBox
        have hx16 := heap_alloc_new u zBox
        have hz := World.size_alloc u zBox
        have hg16 : w4.heap.size ≤ u.heap.size := ha.size
        replace hR1 := Lib.hid (hR1.out.new hb)
        replace hR2 := Lib.hid (hR2.out.new hb)
        replace hR3 := Lib.hid (hR3.out.new hb)
        replace hx17 := Lib.hid (below_block hx17.out hb)
        have hn1617 : u.heap.size ≠ X17 := by omega
        replace hl17 : X17 < (u.alloc zBox).heap.size := by omega
        have hl16 : u.heap.size < (u.alloc zBox).heap.size := by omega
        replace ha := bnext ha hb
        refine hK.out _ _ (ha) (fun _ => ?_)
        clear hK K
        (try simp only [Act.put, List.setIfInBounds_toArray, List.set_cons_zero, List.set_cons_succ])
        clear hb hz
        generalize u.alloc zBox = w8 at hx16 hl16 ha hR1 hR2 hR3 hx17 hl17 ⊢
        generalize u.heap.size = X16 at hx16 hl16 hg16 hR1 hR2 hR3 hn1617 ⊢
        replace hx16 := Lib.hid hx16
        replace hR1 := Lib.hid (hR1.out.sub (L' := [X16, X17]) (by intro k hk; simp at hk ⊢; omega))
        replace hR2 := Lib.hid (hR2.out.sub (L' := [X16, X17]) (by intro k hk; simp at hk ⊢; omega))
        replace hR3 := Lib.hid (hR3.out.sub (L' := [X16, X17]) (by intro k hk; simp at hk ⊢; omega))
        refine wpH_cong ho.out hq.out hs.out ?_ ?_ (st3_01.out X16 X17 _ _ _ _ _ _ _ _ _ _ _ _ _ _ _ _ _ _ _ _ _ _ _ _ _ _ _ _ ha hx16 hl16 hg16 hx17 hl17 hg17 hn1617 hR1 hR2 hR3)
        · kernel_rfl
        · (rw [ht.out]; simp only [Act.put, List.setIfInBounds_toArray, List.set_cons_zero, List.set_cons_succ])
      · go_simp
        have hb := below_fresh u zBox
        have hx18 := heap_alloc_new u zBox
        have hz := World.size_alloc u zBox
        have hg18 : w4.heap.size ≤ u.heap.size := ha.size
        replace hR1 := Lib.hid (hR1.out.new hb)
        replace hR2 := Lib.hid (hR2.out.new hb)
        replace hR3 := Lib.hid (hR3.out.new hb)
        replace hx17 := Lib.hid (below_block hx17.out hb)
        have hn1718 : X17 ≠ u.heap.size := by omega
        replace hl17 : X17 < (u.alloc zBox).heap.size := by omega
        have hl18 : u.heap.size < (u.alloc zBox).heap.size := by omega
        replace ha := bnext ha hb
        refine hK.out _ _ (ha) (fun _ => ?_)
        clear hK K
        (try simp only [Act.put, List.setIfInBounds_toArray, List.set_cons_zero, List.set_cons_succ])
        clear hb hz
        generalize u.alloc zBox = w8 at hx18 hl18 ha hR1 hR2 hR3 hx17 hl17 ⊢
        generalize u.heap.size = X18 at hx18 hl18 hg18 hR1 hR2 hR3 hn1718 ⊢
        replace hx18 := Lib.hid hx18
        replace hR1 := Lib.hid (hR1.out.sub (L' := [X17, X18]) (by intro k hk; simp at hk ⊢; omega))
        replace hR2 := Lib.hid (hR2.out.sub (L' := [X17, X18]) (by intro k hk; simp at hk ⊢; omega))
        replace hR3 := Lib.hid (hR3.out.sub (L' := [X17, X18]) (by intro k hk; simp at hk ⊢; omega))
        refine wpH_cong ho.out hq.out hs.out ?_ ?_ (st3_12.out X17 X18 _ _ _ _ _ _ _ _ _ _ _ _ _ _ _ _ _ _ _ _ _ _ _ _ _ _ _ _ ha hx17 hl17 hg17 hx18 hl18 hg18 hn1718 hR1 hR2 hR3)
        · kernel_rfl
        · (rw [ht.out]; simp only [Act.put, List.setIfInBounds_toArray, List.set_cons_zero, List.set_cons_succ]))
    have st3_2 := Lib.hid (show ∀ (X18 : Nat) (ax1 : Option Addr) (lx1 cx1 : Nat) (ay1 : Option Addr) (ly1 cy1 : Nat) (az1 : Option Addr) (lz1 cz1 : Nat) (ax2 : Option Addr) (lx2 cx2 : Nat) (ay2 : Option Addr) (ly2 cy2 : Nat) (az2 : Option Addr) (lz2 cz2 : Nat) (ax3 : Option Addr) (lx3 cx3 : Nat) (ay3 : Option Addr) (ly3 cy3 : Nat) (az3 : Option Addr) (lz3 cz3 : Nat) (u : World), Below w4.heap.size w4 u → Hid (u.heap[X18]? = some zBox) → X18 < u.heap.size → w4.heap.size ≤ X18 → Hid (RsL [X18] u (svS (.slice ax1 lx1 cx1) (.slice ay1 ly1 cy1) (.slice az1 lz1 cz1) S1) S1) → Hid (RsL [X18] u (svS (.slice ax2 lx2 cx2) (.slice ay2 ly2 cy2) (.slice az2 lz2 cz2) S2) S2) → Hid (RsL [X18] u (svS (.slice ax3 lx3 cx3) (.slice ay3 ly3 cy3) (.slice az3 lz3 cz3) S3) S3) → wpAnyH Tryz.prog .any o q s 5 #[true, true, true, true, true, true, true, true, true, false, false, true, false, false, false] (Act.put (Act.put (Act.put (Act.put t (some 34) (svS (.slice ax1 lx1 cx1) (.slice ay1 ly1 cy1) (.slice az1 lz1 cz1) S1)) (some 37) (svS (.slice ax2 lx2 cx2) (.slice ay2 ly2 cy2) (.slice az2 lz2 cz2) S2)) (some 40) (svS (.slice ax3 lx3 cx3) (.slice ay3 ly3 cy3) (.slice az3 lz3 cz3) S3)) (some 18) (.pointer (some ⟨X18, 0, none⟩))) u from by
      intro X18 ax1 lx1 cx1 ay1 ly1 cy1 az1 lz1 cz1 ax2 lx2 cx2 ay2 ly2 cy2 az2 lz2 cz2 ax3 lx3 cx3 ay3 ly3 cy3 az3 lz3 cz3 u ha hx18 hl18 hg18 hR1 hR2 hR3
      rw [ho.out, hq.out, hs.out, ht.out]
      (try simp only [Act.put, List.setIfInBounds_toArray, List.set_cons_zero, List.set_cons_succ])
      refine wpAnyH_ready (rs := [9, 10]) (by kernel_rfl) (by simp) ?_
      refine stepH rfl (fun K hK => ?_) (stepH rfl (fun K hK => ?_) AllReadyH.nil)
      · go_simp
        have hb := below_fresh u zBox
        have hx16 := heap_alloc_new u zBox
        have hz := World.size_alloc u zBox
        have hg16 : w4.heap.size ≤ u.heap.size := ha.size
        replace hR1 := Lib.hid (hR1.out.new hb)
        replace hR2 := Lib.hid (hR2.out.new hb)
        replace hR3 := Lib.hid (hR3.out.new hb)
        replace hx18 := Lib.hid (below_block hx18.out hb)
        have hn1618 : u.heap.size ≠ X18 := by omega
        replace hl18 : X18 < (u.alloc zBox).heap.size := by omega
        have hl16 : u.heap.size < (u.alloc zBox).heap.size := by omega
        replace ha := bnext ha hb
        refine hK.out _ _ (ha) (fun _ => ?_)
        clear hK K
        (try simp only [Act.put, List.setIfInBounds_toArray, List.set_cons_zero, List.set_cons_succ])
        clear hb hz
        generalize u.alloc zBox = w8 at hx16 hl16 ha hR1 hR2 hR3 hx18 hl18 ⊢
        generalize u.heap.size = X16 at hx16 hl16 hg16 hR1 hR2 hR3 hn1618 ⊢
        replace hx16 := Lib.hid hx16
        replace hR1 := Lib.hid (hR1.out.sub (L' := [X16, X18]) (by intro k hk; simp at hk ⊢; omega))
        replace hR2 := Lib.hid (hR2.out.sub (L' := [X16, X18]) (by intro k hk; simp at hk ⊢; omega))
        replace hR3 := Lib.hid (hR3.out.sub (L' := [X16, X18]) (by intro k hk; simp at hk ⊢; omega))
        refine wpH_cong ho.out hq.out hs.out ?_ ?_ (st3_02.out X16 X18 _ _ _ _ _ _ _ _ _ _ _ _ _ _ _ _ _ _ _ _ _ _ _ _ _ _ _ _ ha hx16 hl16 hg16 hx18 hl18 hg18 hn1618 hR1 hR2 hR3)
        · kernel_rfl
        · (rw [ht.out]; simp only [Act.put, List.setIfInBounds_toArray, List.set_cons_zero, List.set_cons_succ])
      · go_simp
        have hb := below_fresh u zBox
        have hx17 := heap_alloc_new u zBox
        have hz := World.size_alloc u zBox
        have hg17 : w4.heap.size ≤ u.heap.size := ha.size
        replace hR1 := Lib.hid (hR1.out.new hb)
        replace hR2 := Lib.hid (hR2.out.new hb)
        replace hR3 := Lib.hid (hR3.out.new hb)
        replace hx18 := Lib.hid (below_block hx18.out hb)
        have hn1718 : u.heap.size ≠ X18 := by omega
        replace hl18 : X18 < (u.alloc zBox).heap.size := by omega
        have hl17 : u.heap.size < (u.alloc zBox).heap.size := by omega
        replace ha := bnext ha hb
        refine hK.out _ _ (ha) (fun _ => ?_)
        clear hK K
        (try simp only [Act.put, List.setIfInBounds_toArray, List.set_cons_zero, List.set_cons_succ])
        clear hb hz
        generalize u.alloc zBox = w8 at hx17 hl17 ha hR1 hR2 hR3 hx18 hl18 ⊢
        generalize u.heap.size = X17 at hx17 hl17 hg17 hR1 hR2 hR3 hn1718 ⊢
        replace hx17 := Lib.hid hx17
        replace hR1 := Lib.hid (hR1.out.sub (L' := [X17, X18]) (by intro k hk; simp at hk ⊢; omega))
        replace hR2 := Lib.hid (hR2.out.sub (L' := [X17, X18]) (by intro k hk; simp at hk ⊢; omega))
        replace hR3 := Lib.hid (hR3.out.sub (L' := [X17, X18]) (by intro k hk; simp at hk ⊢; omega))
        refine wpH_cong ho.out hq.out hs.out ?_ ?_ (st3_12.out X17 X18 _ _ _ _ _ _ _ _ _ _ _ _ _ _ _ _ _ _ _ _ _ _ _ _ _ _ _ _ ha hx17 hl17 hg17 hx18 hl18 hg18 hn1718 hR1 hR2 hR3)
        · kernel_rfl
        · (rw [ht.out]; simp only [Act.put, List.setIfInBounds_toArray, List.set_cons_zero, List.set_cons_succ]))
    have st3_ := Lib.hid (show ∀ (ax1 : Option Addr) (lx1 cx1 : Nat) (ay1 : Option Addr) (ly1 cy1 : Nat) (az1 : Option Addr) (lz1 cz1 : Nat) (ax2 : Option Addr) (lx2 cx2 : Nat) (ay2 : Option Addr) (ly2 cy2 : Nat) (az2 : Option Addr) (lz2 cz2 : Nat) (ax3 : Option Addr) (lx3 cx3 : Nat) (ay3 : Option Addr) (ly3 cy3 : Nat) (az3 : Option Addr) (lz3 cz3 : Nat) (u : World), Below w4.heap.size w4 u → Hid (RsL [] u (svS (.slice ax1 lx1 cx1) (.slice ay1 ly1 cy1) (.slice az1 lz1 cz1) S1) S1) → Hid (RsL [] u (svS (.slice ax2 lx2 cx2) (.slice ay2 ly2 cy2) (.slice az2 lz2 cz2) S2) S2) → Hid (RsL [] u (svS (.slice ax3 lx3 cx3) (.slice ay3 ly3 cy3) (.slice az3 lz3 cz3) S3) S3) → wpAnyH Tryz.prog .any o q s 6 #[true, true, true, true, true, true, true, true, true, false, false, false, false, false, false] (Act.put (Act.put (Act.put t (some 34) (svS (.slice ax1 lx1 cx1) (.slice ay1 ly1 cy1) (.slice az1 lz1 cz1) S1)) (some 37) (svS (.slice ax2 lx2 cx2) (.slice ay2 ly2 cy2) (.slice az2 lz2 cz2) S2)) (some 40) (svS (.slice ax3 lx3 cx3) (.slice ay3 ly3 cy3) (.slice az3 lz3 cz3) S3)) u from by
      intro ax1 lx1 cx1 ay1 ly1 cy1 az1 lz1 cz1 ax2 lx2 cx2 ay2 ly2 cy2 az2 lz2 cz2 ax3 lx3 cx3 ay3 ly3 cy3 az3 lz3 cz3 u ha hR1 hR2 hR3
      rw [ho.out, hq.out, hs.out, ht.out]
      (try simp only [Act.put, List.setIfInBounds_toArray, List.set_cons_zero, List.set_cons_succ])
      refine wpAnyH_ready (rs := [9, 10, 11]) (by kernel_rfl) (by simp) ?_
      refine stepH rfl (fun K hK => ?_) (stepH rfl (fun K hK => ?_) (stepH rfl (fun K hK => ?_) AllReadyH.nil))
      · go_simp
        have hb := below_fresh u zBox
        have hx16 := heap_alloc_new u zBox
        have hz := World.size_alloc u zBox
        have hg16 : w4.heap.size ≤ u.heap.size := ha.size
        replace hR1 := Lib.hid (hR1.out.new hb)
        replace hR2 := Lib.hid (hR2.out.new hb)
        replace hR3 := Lib.hid (hR3.out.new hb)
        have hl16 : u.heap.size < (u.alloc zBox).heap.size := by omega
        replace ha := bnext ha hb
        refine hK.out _ _ (ha) (fun _ => ?_)
        clear hK K
        (try simp only [Act.put, List.setIfInBounds_toArray, List.set_cons_zero, List.set_cons_succ])
        clear hb hz
        generalize u.alloc zBox = w8 at hx16 hl16 ha hR1 hR2 hR3 ⊢
        generalize u.heap.size = X16 at hx16 hl16 hg16 hR1 hR2 hR3 ⊢
        replace hx16 := Lib.hid hx16
        replace hR1 := Lib.hid (hR1.out.sub (L' := [X16]) (by intro k hk; simp at hk ⊢; omega))
        replace hR2 := Lib.hid (hR2.out.sub (L' := [X16]) (by intro k hk; simp at hk ⊢; omega))
        replace hR3 := Lib.hid (hR3.out.sub (L' := [X16]) (by intro k hk; simp at hk ⊢; omega))
        refine wpH_cong ho.out hq.out hs.out ?_ ?_ (st3_0.out X16 _ _ _ _ _ _ _ _ _ _ _ _ _ _ _ _ _ _ _ _ _ _ _ _ _ _ _ _ ha hx16 hl16 hg16 hR1 hR2 hR3)
        · kernel_rfl
        · (rw [ht.out]; simp only [Act.put, List.setIfInBounds_toArray, List.set_cons_zero, List.set_cons_succ])
      · go_simp
        have hb := below_fresh u zBox
        have hx17 := heap_alloc_new u zBox
        have hz := World.size_alloc u zBox
        have hg17 : w4.heap.size ≤ u.heap.size := ha.size
        replace hR1 := Lib.hid (hR1.out.new hb)
        replace hR2 := Lib.hid (hR2.out.new hb)
        replace hR3 := Lib.hid (hR3.out.new hb)
        have hl17 : u.heap.size < (u.alloc zBox).heap.size := by omega
        replace ha := bnext ha hb
        refine hK.out _ _ (ha) (fun _ => ?_)
        clear hK K
        (try simp only [Act.put, List.setIfInBounds_toArray, List.set_cons_zero, List.set_cons_succ])
        clear hb hz
        generalize u.alloc zBox = w8 at hx17 hl17 ha hR1 hR2 hR3 ⊢
        generalize u.heap.size = X17 at hx17 hl17 hg17 hR1 hR2 hR3 ⊢
        replace hx17 := Lib.hid hx17
        replace hR1 := Lib.hid (hR1.out.sub (L' := [X17]) (by intro k hk; simp at hk ⊢; omega))
        replace hR2 := Lib.hid (hR2.out.sub (L' := [X17]) (by intro k hk; simp at hk ⊢; omega))
        replace hR3 := Lib.hid (hR3.out.sub (L' := [X17]) (by intro k hk; simp at hk ⊢; omega))
        refine wpH_cong ho.out hq.out hs.out ?_ ?_ (st3_1.out X17 _ _ _ _ _ _ _ _ _ _ _ _ _ _ _ _ _ _ _ _ _ _ _ _ _ _ _ _ ha hx17 hl17 hg17 hR1 hR2 hR3)
        · kernel_rfl
        · (rw [ht.out]; simp only [Act.put, List.setIfInBounds_toArray, List.set_cons_zero, List.set_cons_succ])
      · go_simp
        have hb := below_fresh u zBox
        have hx18 := heap_alloc_new u zBox
        have hz := World.size_alloc u zBox
        have hg18 : w4.heap.size ≤ u.heap.size := ha.size
        replace hR1 := Lib.hid (hR1.out.new hb)
        replace hR2 := Lib.hid (hR2.out.new hb)
        replace hR3 := Lib.hid (hR3.out.new hb)
        have hl18 : u.heap.size < (u.alloc zBox).heap.size := by omega
        replace ha := bnext ha hb
        refine hK.out _ _ (ha) (fun _ => ?_)
        clear hK K
        (try simp only [Act.put, List.setIfInBounds_toArray, List.set_cons_zero, List.set_cons_succ])
        clear hb hz
        generalize u.alloc zBox = w8 at hx18 hl18 ha hR1 hR2 hR3 ⊢
        generalize u.heap.size = X18 at hx18 hl18 hg18 hR1 hR2 hR3 ⊢
        replace hx18 := Lib.hid hx18
        replace hR1 := Lib.hid (hR1.out.sub (L' := [X18]) (by intro k hk; simp at hk ⊢; omega))
        replace hR2 := Lib.hid (hR2.out.sub (L' := [X18]) (by intro k hk; simp at hk ⊢; omega))
        replace hR3 := Lib.hid (hR3.out.sub (L' := [X18]) (by intro k hk; simp at hk ⊢; omega))
        refine wpH_cong ho.out hq.out hs.out ?_ ?_ (st3_2.out X18 _ _ _ _ _ _ _ _ _ _ _ _ _ _ _ _ _ _ _ _ _ _ _ _ _ _ _ _ ha hx18 hl18 hg18 hR1 hR2 hR3)
        · kernel_rfl
        · (rw [ht.out]; simp only [Act.put, List.setIfInBounds_toArray, List.set_cons_zero, List.set_cons_succ]))
    have st2_012 := Lib.hid (show ∀ (X16 : Nat) (X17 : Nat) (X18 : Nat) (ax1 : Option Addr) (lx1 cx1 : Nat) (ay1 : Option Addr) (ly1 cy1 : Nat) (az1 : Option Addr) (lz1 cz1 : Nat) (ax2 : Option Addr) (lx2 cx2 : Nat) (ay2 : Option Addr) (ly2 cy2 : Nat) (az2 : Option Addr) (lz2 cz2 : Nat) (u : World), Below w4.heap.size w4 u → Hid (u.heap[X16]? = some zBox) → X16 < u.heap.size → w4.heap.size ≤ X16 → Hid (u.heap[X17]? = some zBox) → X17 < u.heap.size → w4.heap.size ≤ X17 → Hid (u.heap[X18]? = some zBox) → X18 < u.heap.size → w4.heap.size ≤ X18 → X16 ≠ X17 → X16 ≠ X18 → X17 ≠ X18 → Hid (RsL [X16, X17, X18] u (svS (.slice ax1 lx1 cx1) (.slice ay1 ly1 cy1) (.slice az1 lz1 cz1) S1) S1) → Hid (RsL [X16, X17, X18] u (svS (.slice ax2 lx2 cx2) (.slice ay2 ly2 cy2) (.slice az2 lz2 cz2) S2) S2) → wpAnyH Tryz.prog .any o q s 4 #[true, true, true, true, true, true, true, true, false, true, true, true, false, false, false] (Act.put (Act.put (Act.put (Act.put (Act.put t (some 34) (svS (.slice ax1 lx1 cx1) (.slice ay1 ly1 cy1) (.slice az1 lz1 cz1) S1)) (some 37) (svS (.slice ax2 lx2 cx2) (.slice ay2 ly2 cy2) (.slice az2 lz2 cz2) S2)) (some 16) (.pointer (some ⟨X16, 0, none⟩))) (some 17) (.pointer (some ⟨X17, 0, none⟩))) (some 18) (.pointer (some ⟨X18, 0, none⟩))) u from by
      intro X16 X17 X18 ax1 lx1 cx1 ay1 ly1 cy1 az1 lz1 cz1 ax2 lx2 cx2 ay2 ly2 cy2 az2 lz2 cz2 u ha hx16 hl16 hg16 hx17 hl17 hg17 hx18 hl18 hg18 hn1617 hn1618 hn1718 hR1 hR2
      rw [ho.out, hq.out, hs.out, ht.out]
      (try simp only [Act.put, List.setIfInBounds_toArray, List.set_cons_zero, List.set_cons_succ])
      refine wpAnyH_ready (rs := [8]) (by kernel_rfl) (by simp) ?_
      refine stepH rfl (fun K hK => ?_) AllReadyH.nil
      go_simp
      refine (HS3.out u ha).mono ?_
      rintro e w8 ⟨v3, rfl, hrf, hb⟩
      obtain ⟨ax3, lx3, cx3, ay3, ly3, cy3, az3, lz3, cz3, hv⟩ := hrf.rd.shape
      subst hv
      have hR3 := Lib.hid (RsL.of (L := [X16, X17, X18]) hrf (by intro k hk; simp at hk; omega))
      replace hR1 := Lib.hid (hR1.out.next hb)
      replace hR2 := Lib.hid (hR2.out.next hb)
      replace hx16 := Lib.hid (below_block hx16.out hb)
      replace hl16 := Nat.lt_of_lt_of_le hl16 hb.size
      replace hx17 := Lib.hid (below_block hx17.out hb)
      replace hl17 := Nat.lt_of_lt_of_le hl17 hb.size
      replace hx18 := Lib.hid (below_block hx18.out hb)
      replace hl18 := Nat.lt_of_lt_of_le hl18 hb.size
      replace ha := bnext ha hb
      clear hb hrf
      go_wp2_with fail
      refine hK.out _ _ (ha) (fun _ => ?_)
      clear hK K
      (try simp only [Act.put, List.setIfInBounds_toArray, List.set_cons_zero, List.set_cons_succ])
      refine wpH_cong ho.out hq.out hs.out ?_ ?_ (st3_012.out X16 X17 X18 _ _ _ _ _ _ _ _ _ _ _ _ _ _ _ _ _ _ _ _ _ _ _ _ _ _ _ _ ha hx16 hl16 hg16 hx17 hl17 hg17 hx18 hl18 hg18 hn1617 hn1618 hn1718 hR1 hR2 hR3)
      · kernel_rfl
      · (rw [ht.out]; simp only [Act.put, List.setIfInBounds_toArray, List.set_cons_zero, List.set_cons_succ]))
    have st2_01 := Lib.hid (show ∀ (X16 : Nat) (X17 : Nat) (ax1 : Option Addr) (lx1 cx1 : Nat) (ay1 : Option Addr) (ly1 cy1 : Nat) (az1 : Option Addr) (lz1 cz1 : Nat) (ax2 : Option Addr) (lx2 cx2 : Nat) (ay2 : Option Addr) (ly2 cy2 : Nat) (az2 : Option Addr) (lz2 cz2 : Nat) (u : World), Below w4.heap.size w4 u → Hid (u.heap[X16]? = some zBox) → X16 < u.heap.size → w4.heap.size ≤ X16 → Hid (u.heap[X17]? = some zBox) → X17 < u.heap.size → w4.heap.size ≤ X17 → X16 ≠ X17 → Hid (RsL [X16, X17] u (svS (.slice ax1 lx1 cx1) (.slice ay1 ly1 cy1) (.slice az1 lz1 cz1) S1) S1) → Hid (RsL [X16, X17] u (svS (.slice ax2 lx2 cx2) (.slice ay2 ly2 cy2) (.slice az2 lz2 cz2) S2) S2) → wpAnyH Tryz.prog .any o q s 5 #[true, true, true, true, true, true, true, true, false, true, true, false, false, false, false] (Act.put (Act.put (Act.put (Act.put t (some 34) (svS (.slice ax1 lx1 cx1) (.slice ay1 ly1 cy1) (.slice az1 lz1 cz1) S1)) (some 37) (svS (.slice ax2 lx2 cx2) (.slice ay2 ly2 cy2) (.slice az2 lz2 cz2) S2)) (some 16) (.pointer (some ⟨X16, 0, none⟩))) (some 17) (.pointer (some ⟨X17, 0, none⟩))) u from by
      intro X16 X17 ax1 lx1 cx1 ay1 ly1 cy1 az1 lz1 cz1 ax2 lx2 cx2 ay2 ly2 cy2 az2 lz2 cz2 u ha hx16 hl16 hg16 hx17 hl17 hg17 hn1617 hR1 hR2
      rw [ho.out, hq.out, hs.out, ht.out]
      (try simp only [Act.put, List.setIfInBounds_toArray, List.set_cons_zero, List.set_cons_succ])
      refine wpAnyH_ready (rs := [8, 11]) (by kernel_rfl) (by simp) ?_
      refine stepH rfl (fun K hK => ?_) (stepH rfl (fun K hK => ?_) AllReadyH.nil)
      · go_simp
        refine (HS3.out u ha).mono ?_
        rintro e w8 ⟨v3, rfl, hrf, hb⟩
        obtain ⟨ax3, lx3, cx3, ay3, ly3, cy3, az3, lz3, cz3, hv⟩ := hrf.rd.shape
        subst hv
        have hR3 := Lib.hid (RsL.of (L := [X16, X17]) hrf (by intro k hk; simp at hk; omega))
        replace hR1 := Lib.hid (hR1.out.next hb)
        replace hR2 := Lib.hid (hR2.out.next hb)
        replace hx16 := Lib.hid (below_block hx16.out hb)
        replace hl16 := Nat.lt_of_lt_of_le hl16 hb.size
        replace hx17 := Lib.hid (below_block hx17.out hb)
        replace hl17 := Nat.lt_of_lt_of_le hl17 hb.size
        replace ha := bnext ha hb
        clear hb hrf
        go_wp2_with fail
        refine hK.out _ _ (ha) (fun _ => ?_)
        clear hK K
        (try simp only [Act.put, List.setIfInBounds_toArray, List.set_cons_zero, List.set_cons_succ])
        refine wpH_cong ho.out hq.out hs.out ?_ ?_ (st3_01.out X16 X17 _ _ _ _ _ _ _ _ _ _ _ _ _ _ _ _ _ _ _ _ _ _ _ _ _ _ _ _ ha hx16 hl16 hg16 hx17 hl17 hg17 hn1617 hR1 hR2 hR3)
        · kernel_rfl
        · (rw [ht.out]; simp only [Act.put, List.setIfInBounds_toArray, List.set_cons_zero, List.set_cons_succ])
      · go_simp
        have hb := below_fresh u zBox
        have hx18 := heap_alloc_new u zBox
        have hz := World.size_alloc u zBox
        have hg18 : w4.heap.size ≤ u.heap.size := ha.size
        replace hR1 := Lib.hid (hR1.out.new hb)
        replace hR2 := Lib.hid (hR2.out.new hb)
        replace hx16 := Lib.hid (below_block hx16.out hb)
        have hn1618 : X16 ≠ u.heap.size := by omega
        replace hl16 : X16 < (u.alloc zBox).heap.size := by omega
        replace hx17 := Lib.hid (below_block hx17.out hb)
        have hn1718 : X17 ≠ u.heap.size := by omega
        replace hl17 : X17 < (u.alloc zBox).heap.size := by omega
        have hl18 : u.heap.size < (u.alloc zBox).heap.size := by omega
        replace ha := bnext ha hb
        refine hK.out _ _ (ha) (fun _ => ?_)
        clear hK K
        (try simp only [Act.put, List.setIfInBounds_toArray, List.set_cons_zero, List.set_cons_succ])
        clear hb hz
        generalize u.alloc zBox = w8 at hx18 hl18 ha hR1 hR2 hx16 hl16 hx17 hl17 ⊢
        generalize u.heap.size = X18 at hx18 hl18 hg18 hR1 hR2 hn1618 hn1718 ⊢
        replace hx18 := Lib.hid hx18
        replace hR1 := Lib.hid (hR1.out.sub (L' := [X16, X17, X18]) (by intro k hk; simp at hk ⊢; omega))
        replace hR2 := Lib.hid (hR2.out.sub (L' := [X16, X17, X18]) (by intro k hk; simp at hk ⊢; omega))
        refine wpH_cong ho.out hq.out hs.out ?_ ?_ (st2_012.out X16 X17 X18 _ _ _ _ _ _ _ _ _ _ _ _ _ _ _ _ _ _ _ ha hx16 hl16 hg16 hx17 hl17 hg17 hx18 hl18 hg18 hn1617 hn1618 hn1718 hR1 hR2)
        · kernel_rfl
        · (rw [ht.out]; simp only [Act.put, List.setIfInBounds_toArray, List.set_cons_zero, List.set_cons_succ]))
    have st2_02 := Lib.hid (show ∀ (X16 : Nat) (X18 : Nat) (ax1 : Option Addr) (lx1 cx1 : Nat) (ay1 : Option Addr) (ly1 cy1 : Nat) (az1 : Option Addr) (lz1 cz1 : Nat) (ax2 : Option Addr) (lx2 cx2 : Nat) (ay2 : Option Addr) (ly2 cy2 : Nat) (az2 : Option Addr) (lz2 cz2 : Nat) (u : World), Below w4.heap.size w4 u → Hid (u.heap[X16]? = some zBox) → X16 < u.heap.size → w4.heap.size ≤ X16 → Hid (u.heap[X18]? = some zBox) → X18 < u.heap.size → w4.heap.size ≤ X18 → X16 ≠ X18 → Hid (RsL [X16, X18] u (svS (.slice ax1 lx1 cx1) (.slice ay1 ly1 cy1) (.slice az1 lz1 cz1) S1) S1) → Hid (RsL [X16, X18] u (svS (.slice ax2 lx2 cx2) (.slice ay2 ly2 cy2) (.slice az2 lz2 cz2) S2) S2) → wpAnyH Tryz.prog .any o q s 5 #[true, true, true, true, true, true, true, true, false, true, false, true, false, false, false] (Act.put (Act.put (Act.put (Act.put t (some 34) (svS (.slice ax1 lx1 cx1) (.slice ay1 ly1 cy1) (.slice az1 lz1 cz1) S1)) (some 37) (svS (.slice ax2 lx2 cx2) (.slice ay2 ly2 cy2) (.slice az2 lz2 cz2) S2)) (some 16) (.pointer (some ⟨X16, 0, none⟩))) (some 18) (.pointer (some ⟨X18, 0, none⟩))) u from by
      intro X16 X18 ax1 lx1 cx1 ay1 ly1 cy1 az1 lz1 cz1 ax2 lx2 cx2 ay2 ly2 cy2 az2 lz2 cz2 u ha hx16 hl16 hg16 hx18 hl18 hg18 hn1618 hR1 hR2
      rw [ho.out, hq.out, hs.out, ht.out]
      (try simp only [Act.put, List.setIfInBounds_toArray, List.set_cons_zero, List.set_cons_succ])
      refine wpAnyH_ready (rs := [8, 10]) (by kernel_rfl) (by simp) ?_
      refine stepH rfl (fun K hK => ?_) (stepH rfl (fun K hK => ?_) AllReadyH.nil)
      · go_simp
        refine (HS3.out u ha).mono ?_
        rintro e w8 ⟨v3, rfl, hrf, hb⟩
        obtain ⟨ax3, lx3, cx3, ay3, ly3, cy3, az3, lz3, cz3, hv⟩ := hrf.rd.shape
        subst hv
        have hR3 := Lib.hid (RsL.of (L := [X16, X18]) hrf (by intro k hk; simp at hk; omega))
        replace hR1 := Lib.hid (hR1.out.next hb)
        replace hR2 := Lib.hid (hR2.out.next hb)
        replace hx16 := Lib.hid (below_block hx16.out hb)
        replace hl16 := Nat.lt_of_lt_of_le hl16 hb.size
        replace hx18 := Lib.hid (below_block hx18.out hb)
        replace hl18 := Nat.lt_of_lt_of_le hl18 hb.size
        replace ha := bnext ha hb
        clear hb hrf
        go_wp2_with fail
        refine hK.out _ _ (ha) (fun _ => ?_)
        clear hK K
        (try simp only [Act.put, List.setIfInBounds_toArray, List.set_cons_zero, List.set_cons_succ])
        refine wpH_cong ho.out hq.out hs.out ?_ ?_ (st3_02.out X16 X18 _ _ _ _ _ _ _ _ _ _ _ _ _ _ _ _ _ _ _ _ _ _ _ _ _ _ _ _ ha hx16 hl16 hg16 hx18 hl18 hg18 hn1618 hR1 hR2 hR3)
        · kernel_rfl
        · (rw [ht.out]; simp only [Act.put, List.setIfInBounds_toArray, List.set_cons_zero, List.set_cons_succ])
      · go_simp
        have hb := below_fresh u zBox
        have hx17 := heap_alloc_new u zBox
        have hz := World.size_alloc u zBox
        have hg17 : w4.heap.size ≤ u.heap.size := ha.size
        replace hR1 := Lib.hid (hR1.out.new hb)
        replace hR2 := Lib.hid (hR2.out.new hb)
        replace hx16 := Lib.hid (below_block hx16.out hb)
        have hn1617 : X16 ≠ u.heap.size := by omega
        replace hl16 : X16 < (u.alloc zBox).heap.size := by omega
        replace hx18 := Lib.hid (below_block hx18.out hb)
        have hn1718 : u.heap.size ≠ X18 := by omega
        replace hl18 : X18 < (u.alloc zBox).heap.size := by omega
        have hl17 : u.heap.size < (u.alloc zBox).heap.size := by omega
        replace ha := bnext ha hb
        refine hK.out _ _ (ha) (fun _ => ?_)
        clear hK K
        (try simp only [Act.put, List.setIfInBounds_toArray, List.set_cons_zero, List.set_cons_succ])
        clear hb hz
        generalize u.alloc zBox = w8 at hx17 hl17 ha hR1 hR2 hx16 hl16 hx18 hl18 ⊢
        generalize u.heap.size = X17 at hx17 hl17 hg17 hR1 hR2 hn1617 hn1718 ⊢
        replace hx17 := Lib.hid hx17
        replace hR1 := Lib.hid (hR1.out.sub (L' := [X16, X17, X18]) (by intro k hk; simp at hk ⊢; omega))
        replace hR2 := Lib.hid (hR2.out.sub (L' := [X16, X17, X18]) (by intro k hk; simp at hk ⊢; omega))
        refine wpH_cong ho.out hq.out hs.out ?_ ?_ (st2_012.out X16 X17 X18 _ _ _ _ _ _ _ _ _ _ _ _ _ _ _ _ _ _ _ ha hx16 hl16 hg16 hx17 hl17 hg17 hx18 hl18 hg18 hn1617 hn1618 hn1718 hR1 hR2)
        · kernel_rfl
        · (rw [ht.out]; simp only [Act.put, List.setIfInBounds_toArray, List.set_cons_zero, List.set_cons_succ]))
    have st2_12 := Lib.hid (show ∀ (X17 : Nat) (X18 : Nat) (ax1 : Option Addr) (lx1 cx1 : Nat) (ay1 : Option Addr) (ly1 cy1 : Nat) (az1 : Option Addr) (lz1 cz1 : Nat) (ax2 : Option Addr) (lx2 cx2 : Nat) (ay2 : Option Addr) (ly2 cy2 : Nat) (az2 : Option Addr) (lz2 cz2 : Nat) (u : World), Below w4.heap.size w4 u → Hid (u.heap[X17]? = some zBox) → X17 < u.heap.size → w4.heap.size ≤ X17 → Hid (u.heap[X18]? = some zBox) → X18 < u.heap.size → w4.heap.size ≤ X18 → X17 ≠ X18 → Hid (RsL [X17, X18] u (svS (.slice ax1 lx1 cx1) (.slice ay1 ly1 cy1) (.slice az1 lz1 cz1) S1) S1) → Hid (RsL [X17, X18] u (svS (.slice ax2 lx2 cx2) (.slice ay2 ly2 cy2) (.slice az2 lz2 cz2) S2) S2) → wpAnyH Tryz.prog .any o q s 5 #[true, true, true, true, true, true, true, true, false, false, true, true, false, false, false] (Act.put (Act.put (Act.put (Act.put t (some 34) (svS (.slice ax1 lx1 cx1) (.slice ay1 ly1 cy1) (.slice az1 lz1 cz1) S1)) (some 37) (svS (.slice ax2 lx2 cx2) (.slice ay2 ly2 cy2) (.slice az2 lz2 cz2) S2)) (some 17) (.pointer (some ⟨X17, 0, none⟩))) (some 18) (.pointer (some ⟨X18, 0, none⟩))) u from by
      intro X17 X18 ax1 lx1 cx1 ay1 ly1 cy1 az1 lz1 cz1 ax2 lx2 cx2 ay2 ly2 cy2 az2 lz2 cz2 u ha hx17 hl17 hg17 hx18 hl18 hg18 hn1718 hR1 hR2
      rw [ho.out, hq.out, hs.out, ht.out]
      (try simp only [Act.put, List.setIfInBounds_toArray, List.set_cons_zero, List.set_cons_succ])
      refine wpAnyH_ready (rs := [8, 9]) (by kernel_rfl) (by simp) ?_
      refine stepH rfl (fun K hK => ?_) (stepH rfl (fun K hK => ?_) AllReadyH.nil)
      · go_simp
        refine (HS3.out u ha).mono ?_
        rintro e w8 ⟨v3, rfl, hrf, hb⟩
        obtain ⟨ax3, lx3, cx3, ay3, ly3, cy3, az3, lz3, cz3, hv⟩ := hrf.rd.shape
        subst hv
        have hR3 := Lib.hid (RsL.of (L := [X17, X18]) hrf (by intro k hk; simp at hk; omega))
        replace hR1 := Lib.hid (hR1.out.next hb)
        replace hR2 := Lib.hid (hR2.out.next hb)
        replace hx17 := Lib.hid (below_block hx17.out hb)
        replace hl17 := Nat.lt_of_lt_of_le hl17 hb.size
        replace hx18 := Lib.hid (below_block hx18.out hb)
        replace hl18 := Nat.lt_of_lt_of_le hl18 hb.size
        replace ha := bnext ha hb
        clear hb hrf
        go_wp2_with fail
        refine hK.out _ _ (ha) (fun _ => ?_)
        clear hK K
        (try simp only [Act.put, List.setIfInBounds_toArray, List.set_cons_zero, List.set_cons_succ])
        refine wpH_cong ho.out hq.out hs.out ?_ ?_ (st3_12.out X17 X18 _ _ _ _ _ _ _ _ _ _ _ _ _ _ _ _ _ _ _ _ _ _ _ _ _ _ _ _ ha hx17 hl17 hg17 hx18 hl18 hg18 hn1718 hR1 hR2 hR3)
        · kernel_rfl
        · (rw [ht.out]; simp only [Act.put, List.setIfInBounds_toArray, List.set_cons_zero, List.set_cons_succ])
      · go_simp
        have hb := below_fresh u zBox
        have hx16 := heap_alloc_new u zBox
        have hz := World.size_alloc u zBox
        have hg16 : w4.heap.size ≤ u.heap.size := ha.size
        replace hR1 := Lib.hid (hR1.out.new hb)
        replace hR2 := Lib.hid (hR2.out.new hb)
        replace hx17 := Lib.hid (below_block hx17.out hb)
        have hn1617 : u.heap.size ≠ X17 := by omega
        replace hl17 : X17 < (u.alloc zBox).heap.size := by omega
        replace hx18 := Lib.hid (below_block hx18.out hb)
        have hn1618 : u.heap.size ≠ X18 := by omega
        replace hl18 : X18 < (u.alloc zBox).heap.size := by omega
        have hl16 : u.heap.size < (u.alloc zBox).heap.size := by omega
        replace ha := bnext ha hb
        refine hK.out _ _ (ha) (fun _ => ?_)
        clear hK K
        (try simp only [Act.put, List.setIfInBounds_toArray, List.set_cons_zero, List.set_cons_succ])
        clear hb hz
        generalize u.alloc zBox = w8 at hx16 hl16 ha hR1 hR2 hx17 hl17 hx18 hl18 ⊢
        generalize u.heap.size = X16 at hx16 hl16 hg16 hR1 hR2 hn1617 hn1618 ⊢
        replace hx16 := Lib.hid hx16
        replace hR1 := Lib.hid (hR1.out.sub (L' := [X16, X17, X18]) (by intro k hk; simp at hk ⊢; omega))
        replace hR2 := Lib.hid (hR2.out.sub (L' := [X16, X17, X18]) (by intro k hk; simp at hk ⊢; omega))
        refine wpH_cong ho.out hq.out hs.out ?_ ?_ (st2_012.out X16 X17 X18 _ _ _ _ _ _ _ _ _ _ _ _ _ _ _ _ _ _ _ ha hx16 hl16 hg16 hx17 hl17 hg17 hx18 hl18 hg18 hn1617 hn1618 hn1718 hR1 hR2)
        · kernel_rfl
        · (rw [ht.out]; simp only [Act.put, List.setIfInBounds_toArray, List.set_cons_zero, List.set_cons_succ]))
    have st2_0 := Lib.hid (show ∀ (X16 : Nat) (ax1 : Option Addr) (lx1 cx1 : Nat) (ay1 : Option Addr) (ly1 cy1 : Nat) (az1 : Option Addr) (lz1 cz1 : Nat) (ax2 : Option Addr) (lx2 cx2 : Nat) (ay2 : Option Addr) (ly2 cy2 : Nat) (az2 : Option Addr) (lz2 cz2 : Nat) (u : World), Below w4.heap.size w4 u → Hid (u.heap[X16]? = some zBox) → X16 < u.heap.size → w4.heap.size ≤ X16 → Hid (RsL [X16] u (svS (.slice ax1 lx1 cx1) (.slice ay1 ly1 cy1) (.slice az1 lz1 cz1) S1) S1) → Hid (RsL [X16] u (svS (.slice ax2 lx2 cx2) (.slice ay2 ly2 cy2) (.slice az2 lz2 cz2) S2) S2) → wpAnyH Tryz.prog .any o q s 6 #[true, true, true, true, true, true, true, true, false, true, false, false, false, false, false] (Act.put (Act.put (Act.put t (some 34) (svS (.slice ax1 lx1 cx1) (.slice ay1 ly1 cy1) (.slice az1 lz1 cz1) S1)) (some 37) (svS (.slice ax2 lx2 cx2) (.slice ay2 ly2 cy2) (.slice az2 lz2 cz2) S2)) (some 16) (.pointer (some ⟨X16, 0, none⟩))) u from by
      intro X16 ax1 lx1 cx1 ay1 ly1 cy1 az1 lz1 cz1 ax2 lx2 cx2 ay2 ly2 cy2 az2 lz2 cz2 u ha hx16 hl16 hg16 hR1 hR2
      rw [ho.out, hq.out, hs.out, ht.out]
      (try simp only [Act.put, List.setIfInBounds_toArray, List.set_cons_zero, List.set_cons_succ])
      refine wpAnyH_ready (rs := [8, 10, 11]) (by kernel_rfl) (by simp) ?_
      refine stepH rfl (fun K hK => ?_) (stepH rfl (fun K hK => ?_) (stepH rfl (fun K hK => ?_) AllReadyH.nil))
      · go_simp
        refine (HS3.out u ha).mono ?_
        rintro e w8 ⟨v3, rfl, hrf, hb⟩
        obtain ⟨ax3, lx3, cx3, ay3, ly3, cy3, az3, lz3, cz3, hv⟩ := hrf.rd.shape
        subst hv
        have hR3 := Lib.hid (RsL.of (L := [X16]) hrf (by intro k hk; simp at hk; omega))
        replace hR1 := Lib.hid (hR1.out.next hb)
        replace hR2 := Lib.hid (hR2.out.next hb)
        replace hx16 := Lib.hid (below_block hx16.out hb)
        replace hl16 := Nat.lt_of_lt_of_le hl16 hb.size
        replace ha := bnext ha hb
        clear hb hrf
        go_wp2_with fail
        refine hK.out _ _ (ha) (fun _ => ?_)
        clear hK K
        (try simp only [Act.put, List.setIfInBounds_toArray, List.set_cons_zero, List.set_cons_succ])
        refine wpH_cong ho.out hq.out hs.out ?_ ?_ (st3_0.out X16 _ _ _ _ _ _ _ _ _ _ _ _ _ _ _ _ _ _ _ _ _ _ _ _ _ _ _ _ ha hx16 hl16 hg16 hR1 hR2 hR3)
        · kernel_rfl
        · (rw [ht.out]; simp only [Act.put, List.setIfInBounds_toArray, List.set_cons_zero, List.set_cons_succ])
      · go_simp
        have hb := below_fresh u zBox
        have hx17 := heap_alloc_new u zBox
        have hz := World.size_alloc u zBox
        have hg17 : w4.heap.size ≤ u.heap.size := ha.size
        replace hR1 := Lib.hid (hR1.out.new hb)
        replace hR2 := Lib.hid (hR2.out.new hb)
        replace hx16 := Lib.hid (below_block hx16.out hb)
        have hn1617 : X16 ≠ u.heap.size := by omega
        replace hl16 : X16 < (u.alloc zBox).heap.size := by omega
        have hl17 : u.heap.size < (u.alloc zBox).heap.size := by omega
        replace ha := bnext ha hb
        refine hK.out _ _ (ha) (fun _ => ?_)
        clear hK K
        (try simp only [Act.put, List.setIfInBounds_toArray, List.set_cons_zero, List.set_cons_succ])
        clear hb hz
        generalize u.alloc zBox = w8 at hx17 hl17 ha hR1 hR2 hx16 hl16 ⊢
        generalize u.heap.size = X17 at hx17 hl17 hg17 hR1 hR2 hn1617 ⊢
        replace hx17 := Lib.hid hx17
        replace hR1 := Lib.hid (hR1.out.sub (L' := [X16, X17]) (by intro k hk; simp at hk ⊢; omega))
        replace hR2 := Lib.hid (hR2.out.sub (L' := [X16, X17]) (by intro k hk; simp at hk ⊢; omega))
        refine wpH_cong ho.out hq.out hs.out ?_ ?_ (st2_01.out X16 X17 _ _ _ _ _ _ _ _ _ _ _ _ _ _ _ _ _ _ _ ha hx16 hl16 hg16 hx17 hl17 hg17 hn1617 hR1 hR2)
        · kernel_rfl
        · (rw [ht.out]; simp only [Act.put, List.setIfInBounds_toArray, List.set_cons_zero, List.set_cons_succ])
      · go_simp
        have hb := below_fresh u zBox
        have hx18 := heap_alloc_new u zBox
        have hz := World.size_alloc u zBox
        have hg18 : w4.heap.size ≤ u.heap.size := ha.size
        replace hR1 := Lib.hid (hR1.out.new hb)
        replace hR2 := Lib.hid (hR2.out.new hb)
        replace hx16 := Lib.hid (below_block hx16.out hb)
        have hn1618 : X16 ≠ u.heap.size := by omega
        replace hl16 : X16 < (u.alloc zBox).heap.size := by omega
        have hl18 : u.heap.size < (u.alloc zBox).heap.size := by omega
        replace ha := bnext ha hb
        refine hK.out _ _ (ha) (fun _ => ?_)
        clear hK K
        (try simp only [Act.put, List.setIfInBounds_toArray, List.set_cons_zero, List.set_cons_succ])
        clear hb hz
        generalize u.alloc zBox = w8 at hx18 hl18 ha hR1 hR2 hx16 hl16 ⊢
        generalize u.heap.size = X18 at hx18 hl18 hg18 hR1 hR2 hn1618 ⊢
        replace hx18 := Lib.hid hx18
        replace hR1 := Lib.hid (hR1.out.sub (L' := [X16, X18]) (by intro k hk; simp at hk ⊢; omega))
        replace hR2 := Lib.hid (hR2.out.sub (L' := [X16, X18]) (by intro k hk; simp at hk ⊢; omega))
        refine wpH_cong ho.out hq.out hs.out ?_ ?_ (st2_02.out X16 X18 _ _ _ _ _ _ _ _ _ _ _ _ _ _ _ _ _ _ _ ha hx16 hl16 hg16 hx18 hl18 hg18 hn1618 hR1 hR2)
        · kernel_rfl
        · (rw [ht.out]; simp only [Act.put, List.setIfInBounds_toArray, List.set_cons_zero, List.set_cons_succ]))
    have st2_1 := Lib.hid (show ∀ (X17 : Nat) (ax1 : Option Addr) (lx1 cx1 : Nat) (ay1 : Option Addr) (ly1 cy1 : Nat) (az1 : Option Addr) (lz1 cz1 : Nat) (ax2 : Option Addr) (lx2 cx2 : Nat) (ay2 : Option Addr) (ly2 cy2 : Nat) (az2 : Option Addr) (lz2 cz2 : Nat) (u : World), Below w4.heap.size w4 u → Hid (u.heap[X17]? = some zBox) → X17 < u.heap.size → w4.heap.size ≤ X17 → Hid (RsL [X17] u (svS (.slice ax1 lx1 cx1) (.slice ay1 ly1 cy1) (.slice az1 lz1 cz1) S1) S1) → Hid (RsL [X17] u (svS (.slice ax2 lx2 cx2) (.slice ay2 ly2 cy2) (.slice az2 lz2 cz2) S2) S2) → wpAnyH Tryz.prog .any o q s 6 #[true, true, true, true, true, true, true, true, false, false, true, false, false, false, false] (Act.put (Act.put (Act.put t (some 34) (svS (.slice ax1 lx1 cx1) (.slice ay1 ly1 cy1) (.slice az1 lz1 cz1) S1)) (some 37) (svS (.slice ax2 lx2 cx2) (.slice ay2 ly2 cy2) (.slice az2 lz2 cz2) S2)) (some 17) (.pointer (some ⟨X17, 0, none⟩))) u from by
      intro X17 ax1 lx1 cx1 ay1 ly1 cy1 az1 lz1 cz1 ax2 lx2 cx2 ay2 ly2 cy2 az2 lz2 cz2 u ha hx17 hl17 hg17 hR1 hR2
      rw [ho.out, hq.out, hs.out, ht.out]
      (try simp only [Act.put, List.setIfInBounds_toArray, List.set_cons_zero, List.set_cons_succ])
      refine wpAnyH_ready (rs := [8, 9, 11]) (by kernel_rfl) (by simp) ?_
      refine stepH rfl (fun K hK => ?_) (stepH rfl (fun K hK => ?_) (stepH rfl (fun K hK => ?_) AllReadyH.nil))
      · go_simp
        refine (HS3.out u ha).mono ?_
        rintro e w8 ⟨v3, rfl, hrf, hb⟩
        obtain ⟨ax3, lx3, cx3, ay3, ly3, cy3, az3, lz3, cz3, hv⟩ := hrf.rd.shape
        subst hv
        have hR3 := Lib.hid (RsL.of (L := [X17]) hrf (by intro k hk; simp at hk; omega))
        replace hR1 := Lib.hid (hR1.out.next hb)
        replace hR2 := Lib.hid (hR2.out.next hb)
        replace hx17 := Lib.hid (below_block hx17.out hb)
        replace hl17 := Nat.lt_of_lt_of_le hl17 hb.size
        replace ha := bnext ha hb
        clear hb hrf
        go_wp2_with fail
        refine hK.out _ _ (ha) (fun _ => ?_)
        clear hK K
        (try simp only [Act.put, List.setIfInBounds_toArray, List.set_cons_zero, List.set_cons_succ])
        refine wpH_cong ho.out hq.out hs.out ?_ ?_ (st3_1.out X17 _ _ _ _ _ _ _ _ _ _ _ _ _ _ _ _ _ _ _ _ _ _ _ _ _ _ _ _ ha hx17 hl17 hg17 hR1 hR2 hR3)
        · kernel_rfl
        · (rw [ht.out]; simp only [Act.put, List.setIfInBounds_toArray, List.set_cons_zero, List.set_cons_succ])
      · go_simp
        have hb := below_fresh u zBox
        have hx16 := heap_alloc_new u zBox
        have hz := World.size_alloc u zBox
        have hg16 : w4.heap.size ≤ u.heap.size := ha.size
        replace hR1 := Lib.hid (hR1.out.new hb)
        replace hR2 := Lib.hid (hR2.out.new hb)
        replace hx17 := Lib.hid (below_block hx17.out hb)
        have hn1617 : u.heap.size ≠ X17 := by omega
        replace hl17 : X17 < (u.alloc zBox).heap.size := by omega
        have hl16 : u.heap.size < (u.alloc zBox).heap.size := by omega
        replace ha := bnext ha hb
        refine hK.out _ _ (ha) (fun _ => ?_)
        clear hK K
        (try simp only [Act.put, List.setIfInBounds_toArray, List.set_cons_zero, List.set_cons_succ])
        clear hb hz
        generalize u.alloc zBox = w8 at hx16 hl16 ha hR1 hR2 hx17 hl17 ⊢
        generalize u.heap.size = X16 at hx16 hl16 hg16 hR1 hR2 hn1617 ⊢
        replace hx16 := Lib.hid hx16
        replace hR1 := Lib.hid (hR1.out.sub (L' := [X16, X17]) (by intro k hk; simp at hk ⊢; omega))
        replace hR2 := Lib.hid (hR2.out.sub (L' := [X16, X17]) (by intro k hk; simp at hk ⊢; omega))
        refine wpH_cong ho.out hq.out hs.out ?_ ?_ (st2_01.out X16 X17 _ _ _ _ _ _ _ _ _ _ _ _ _ _ _ _ _ _ _ ha hx16 hl16 hg16 hx17 hl17 hg17 hn1617 hR1 hR2)
        · kernel_rfl
        · (rw [ht.out]; simp only [Act.put, List.setIfInBounds_toArray, List.set_cons_zero, List.set_cons_succ])
      · go_simp
        have hb := below_fresh u zBox
        have hx18 := heap_alloc_new u zBox
        have hz := World.size_alloc u zBox
        have hg18 : w4.heap.size ≤ u.heap.size := ha.size
        replace hR1 := Lib.hid (hR1.out.new hb)
        replace hR2 := Lib.hid (hR2.out.new hb)
        replace hx17 := Lib.hid (below_block hx17.out hb)
        have hn1718 : X17 ≠ u.heap.size := by omega
        replace hl17 : X17 < (u.alloc zBox).heap.size := by omega
        have hl18 : u.heap.size < (u.alloc zBox).heap.size := by omega
        replace ha := bnext ha hb
        refine hK.out _ _ (ha) (fun _ => ?_)
        clear hK K
        (try simp only [Act.put, List.setIfInBounds_toArray, List.set_cons_zero, List.set_cons_succ])
        clear hb hz
        generalize u.alloc zBox = w8 at hx18 hl18 ha hR1 hR2 hx17 hl17 ⊢
        generalize u.heap.size = X18 at hx18 hl18 hg18 hR1 hR2 hn1718 ⊢
        replace hx18 := Lib.hid hx18
        replace hR1 := Lib.hid (hR1.out.sub (L' := [X17, X18]) (by intro k hk; simp at hk ⊢; omega))
        replace hR2 := Lib.hid (hR2.out.sub (L' := [X17, X18]) (by intro k hk; simp at hk ⊢; omega))
        refine wpH_cong ho.out hq.out hs.out ?_ ?_ (st2_12.out X17 X18 _ _ _ _ _ _ _ _ _ _ _ _ _ _ _ _ _ _ _ ha hx17 hl17 hg17 hx18 hl18 hg18 hn1718 hR1 hR2)
        · kernel_rfl
        · (rw [ht.out]; simp only [Act.put, List.setIfInBounds_toArray, List.set_cons_zero, List.set_cons_succ]))
    have st2_2 := Lib.hid (show ∀ (X18 : Nat) (ax1 : Option Addr) (lx1 cx1 : Nat) (ay1 : Option Addr) (ly1 cy1 : Nat) (az1 : Option Addr) (lz1 cz1 : Nat) (ax2 : Option Addr) (lx2 cx2 : Nat) (ay2 : Option Addr) (ly2 cy2 : Nat) (az2 : Option Addr) (lz2 cz2 : Nat) (u : World), Below w4.heap.size w4 u → Hid (u.heap[X18]? = some zBox) → X18 < u.heap.size → w4.heap.size ≤ X18 → Hid (RsL [X18] u (svS (.slice ax1 lx1 cx1) (.slice ay1 ly1 cy1) (.slice az1 lz1 cz1) S1) S1) → Hid (RsL [X18] u (svS (.slice ax2 lx2 cx2) (.slice ay2 ly2 cy2) (.slice az2 lz2 cz2) S2) S2) → wpAnyH Tryz.prog .any o q s 6 #[true, true, true, true, true, true, true, true, false, false, false, true, false, false, false] (Act.put (Act.put (Act.put t (some 34) (svS (.slice ax1 lx1 cx1) (.slice ay1 ly1 cy1) (.slice az1 lz1 cz1) S1)) (some 37) (svS (.slice ax2 lx2 cx2) (.slice ay2 ly2 cy2) (.slice az2 lz2 cz2) S2)) (some 18) (.pointer (some ⟨X18, 0, none⟩))) u from by
      intro X18 ax1 lx1 cx1 ay1 ly1 cy1 az1 lz1 cz1 ax2 lx2 cx2 ay2 ly2 cy2 az2 lz2 cz2 u ha hx18 hl18 hg18 hR1 hR2
      rw [ho.out, hq.out, hs.out, ht.out]
      (try simp only [Act.put, List.setIfInBounds_toArray, List.set_cons_zero, List.set_cons_succ])
      refine wpAnyH_ready (rs := [8, 9, 10]) (by kernel_rfl) (by simp) ?_
      refine stepH rfl (fun K hK => ?_) (stepH rfl (fun K hK => ?_) (stepH rfl (fun K hK => ?_) AllReadyH.nil))
      · go_simp
        refine (HS3.out u ha).mono ?_
        rintro e w8 ⟨v3, rfl, hrf, hb⟩
        obtain ⟨ax3, lx3, cx3, ay3, ly3, cy3, az3, lz3, cz3, hv⟩ := hrf.rd.shape
        subst hv
        have hR3 := Lib.hid (RsL.of (L := [X18]) hrf (by intro k hk; simp at hk; omega))
        replace hR1 := Lib.hid (hR1.out.next hb)
        replace hR2 := Lib.hid (hR2.out.next hb)
        replace hx18 := Lib.hid (below_block hx18.out hb)
        replace hl18 := Nat.lt_of_lt_of_le hl18 hb.size
        replace ha := bnext ha hb
        clear hb hrf
        go_wp2_with fail
        refine hK.out _ _ (ha) (fun _ => ?_)
        clear hK K
        (try simp only [Act.put, List.setIfInBounds_toArray, List.set_cons_zero, List.set_cons_succ])
        refine wpH_cong ho.out hq.out hs.out ?_ ?_ (st3_2.out X18 _ _ _ _ _ _ _ _ _ _ _ _ _ _ _ _ _ _ _ _ _ _ _ _ _ _ _ _ ha hx18 hl18 hg18 hR1 hR2 hR3)
        · kernel_rfl
        · (rw [ht.out]; simp only [Act.put, List.setIfInBounds_toArray, List.set_cons_zero, List.set_cons_succ])
      · go_simp
        have hb := below_fresh u zBox
        have hx16 := heap_alloc_new u zBox
        have hz := World.size_alloc u zBox
        have hg16 : w4.heap.size ≤ u.heap.size := ha.size
        replace hR1 := Lib.hid (hR1.out.new hb)
        replace hR2 := Lib.hid (hR2.out.new hb)
        replace hx18 := Lib.hid (below_block hx18.out hb)
        have hn1618 : u.heap.size ≠ X18 := by omega
        replace hl18 : X18 < (u.alloc zBox).heap.size := by omega
        have hl16 : u.heap.size < (u.alloc zBox).heap.size := by omega
        replace ha := bnext ha hb
        refine hK.out _ _ (ha) (fun _ => ?_)
        clear hK K
        (try simp only [Act.put, List.setIfInBounds_toArray, List.set_cons_zero, List.set_cons_succ])
        clear hb hz
        generalize u.alloc zBox = w8 at hx16 hl16 ha hR1 hR2 hx18 hl18 ⊢
        generalize u.heap.size = X16 at hx16 hl16 hg16 hR1 hR2 hn1618 ⊢
        replace hx16 := Lib.hid hx16
        replace hR1 := Lib.hid (hR1.out.sub (L' := [X16, X18]) (by intro k hk; simp at hk ⊢; omega))
        replace hR2 := Lib.hid (hR2.out.sub (L' := [X16, X18]) (by intro k hk; simp at hk ⊢; omega))
        refine wpH_cong ho.out hq.out hs.out ?_ ?_ (st2_02.out X16 X18 _ _ _ _ _ _ _ _ _ _ _ _ _ _ _ _ _ _ _ ha hx16 hl16 hg16 hx18 hl18 hg18 hn1618 hR1 hR2)
        · kernel_rfl
        · (rw [ht.out]; simp only [Act.put, List.setIfInBounds_toArray, List.set_cons_zero, List.set_cons_succ])
      · go_simp
        have hb := below_fresh u zBox
        have hx17 := heap_alloc_new u zBox
        have hz := World.size_alloc u zBox
        have hg17 : w4.heap.size ≤ u.heap.size := ha.size
        replace hR1 := Lib.hid (hR1.out.new hb)
        replace hR2 := Lib.hid (hR2.out.new hb)
        replace hx18 := Lib.hid (below_block hx18.out hb)
        have hn1718 : u.heap.size ≠ X18 := by omega
        replace hl18 : X18 < (u.alloc zBox).heap.size := by omega
        have hl17 : u.heap.size < (u.alloc zBox).heap.size := by omega
        replace ha := bnext ha hb
        refine hK.out _ _ (ha) (fun _ => ?_)
        clear hK K
        (try simp only [Act.put, List.setIfInBounds_toArray, List.set_cons_zero, List.set_cons_succ])
        clear hb hz
        generalize u.alloc zBox = w8 at hx17 hl17 ha hR1 hR2 hx18 hl18 ⊢
        generalize u.heap.size = X17 at hx17 hl17 hg17 hR1 hR2 hn1718 ⊢
        replace hx17 := Lib.hid hx17
        replace hR1 := Lib.hid (hR1.out.sub (L' := [X17, X18]) (by intro k hk; simp at hk ⊢; omega))
        replace hR2 := Lib.hid (hR2.out.sub (L' := [X17, X18]) (by intro k hk; simp at hk ⊢; omega))
        refine wpH_cong ho.out hq.out hs.out ?_ ?_ (st2_12.out X17 X18 _ _ _ _ _ _ _ _ _ _ _ _ _ _ _ _ _ _ _ ha hx17 hl17 hg17 hx18 hl18 hg18 hn1718 hR1 hR2)
        · kernel_rfl
        · (rw [ht.out]; simp only [Act.put, List.setIfInBounds_toArray, List.set_cons_zero, List.set_cons_succ]))
    have st2_ := Lib.hid (show ∀ (ax1 : Option Addr) (lx1 cx1 : Nat) (ay1 : Option Addr) (ly1 cy1 : Nat) (az1 : Option Addr) (lz1 cz1 : Nat) (ax2 : Option Addr) (lx2 cx2 : Nat) (ay2 : Option Addr) (ly2 cy2 : Nat) (az2 : Option Addr) (lz2 cz2 : Nat) (u : World), Below w4.heap.size w4 u → Hid (RsL [] u (svS (.slice ax1 lx1 cx1) (.slice ay1 ly1 cy1) (.slice az1 lz1 cz1) S1) S1) → Hid (RsL [] u (svS (.slice ax2 lx2 cx2) (.slice ay2 ly2 cy2) (.slice az2 lz2 cz2) S2) S2) → wpAnyH Tryz.prog .any o q s 7 #[true, true, true, true, true, true, true, true, false, false, false, false, false, false, false] (Act.put (Act.put t (some 34) (svS (.slice ax1 lx1 cx1) (.slice ay1 ly1 cy1) (.slice az1 lz1 cz1) S1)) (some 37) (svS (.slice ax2 lx2 cx2) (.slice ay2 ly2 cy2) (.slice az2 lz2 cz2) S2)) u from by
      intro ax1 lx1 cx1 ay1 ly1 cy1 az1 lz1 cz1 ax2 lx2 cx2 ay2 ly2 cy2 az2 lz2 cz2 u ha hR1 hR2
      rw [ho.out, hq.out, hs.out, ht.out]
      (try simp only [Act.put, List.setIfInBounds_toArray, List.set_cons_zero, List.set_cons_succ])
      refine wpAnyH_ready (rs := [8, 9, 10, 11]) (by kernel_rfl) (by simp) ?_
      refine stepH rfl (fun K hK => ?_) (stepH rfl (fun K hK => ?_) (stepH rfl (fun K hK => ?_) (stepH rfl (fun K hK => ?_) AllReadyH.nil)))
      · go_simp
        refine (HS3.out u ha).mono ?_
        rintro e w8 ⟨v3, rfl, hrf, hb⟩
        obtain ⟨ax3, lx3, cx3, ay3, ly3, cy3, az3, lz3, cz3, hv⟩ := hrf.rd.shape
        subst hv
        have hR3 := Lib.hid (RsL.of (L := []) hrf (by intro k hk; simp at hk))
        replace hR1 := Lib.hid (hR1.out.next hb)
        replace hR2 := Lib.hid (hR2.out.next hb)
        replace ha := bnext ha hb
        clear hb hrf
        go_wp2_with fail
        refine hK.out _ _ (ha) (fun _ => ?_)
        clear hK K
        (try simp only [Act.put, List.setIfInBounds_toArray, List.set_cons_zero, List.set_cons_succ])
        refine wpH_cong ho.out hq.out hs.out ?_ ?_ (st3_.out _ _ _ _ _ _ _ _ _ _ _ _ _ _ _ _ _ _ _ _ _ _ _ _ _ _ _ _ ha hR1 hR2 hR3)
        · kernel_rfl
        · (rw [ht.out]; simp only [Act.put, List.setIfInBounds_toArray, List.set_cons_zero, List.set_cons_succ])
      · go_simp
        have hb := below_fresh u zBox
        have hx16 := heap_alloc_new u zBox
        have hz := World.size_alloc u zBox
        have hg16 : w4.heap.size ≤ u.heap.size := ha.size
        replace hR1 := Lib.hid (hR1.out.new hb)
        replace hR2 := Lib.hid (hR2.out.new hb)
        have hl16 : u.heap.size < (u.alloc zBox).heap.size := by omega
        replace ha := bnext ha hb
        refine hK.out _ _ (ha) (fun _ => ?_)
        clear hK K
        (try simp only [Act.put, List.setIfInBounds_toArray, List.set_cons_zero, List.set_cons_succ])
        clear hb hz
        generalize u.alloc zBox = w8 at hx16 hl16 ha hR1 hR2 ⊢
        generalize u.heap.size = X16 at hx16 hl16 hg16 hR1 hR2 ⊢
        replace hx16 := Lib.hid hx16
        replace hR1 := Lib.hid (hR1.out.sub (L' := [X16]) (by intro k hk; simp at hk ⊢; omega))
        replace hR2 := Lib.hid (hR2.out.sub (L' := [X16]) (by intro k hk; simp at hk ⊢; omega))
        refine wpH_cong ho.out hq.out hs.out ?_ ?_ (st2_0.out X16 _ _ _ _ _ _ _ _ _ _ _ _ _ _ _ _ _ _ _ ha hx16 hl16 hg16 hR1 hR2)
        · kernel_rfl
        · (rw [ht.out]; simp only [Act.put, List.setIfInBounds_toArray, List.set_cons_zero, List.set_cons_succ])
      · go_simp
        have hb := below_fresh u zBox
        have hx17 := heap_alloc_new u zBox
        have hz := World.size_alloc u zBox
        have hg17 : w4.heap.size ≤ u.heap.size := ha.size
        replace hR1 := Lib.hid (hR1.out.new hb)
        replace hR2 := Lib.hid (hR2.out.new hb)
        have hl17 : u.heap.size < (u.alloc zBox).heap.size := by omega
        replace ha := bnext ha hb
        refine hK.out _ _ (ha) (fun _ => ?_)
        clear hK K
        (try simp only [Act.put, List.setIfInBounds_toArray, List.set_cons_zero, List.set_cons_succ])
        clear hb hz
        generalize u.alloc zBox = w8 at hx17 hl17 ha hR1 hR2 ⊢
        generalize u.heap.size = X17 at hx17 hl17 hg17 hR1 hR2 ⊢
        replace hx17 := Lib.hid hx17
        replace hR1 := Lib.hid (hR1.out.sub (L' := [X17]) (by intro k hk; simp at hk ⊢; omega))
        replace hR2 := Lib.hid (hR2.out.sub (L' := [X17]) (by intro k hk; simp at hk ⊢; omega))
        refine wpH_cong ho.out hq.out hs.out ?_ ?_ (st2_1.out X17 _ _ _ _ _ _ _ _ _ _ _ _ _ _ _ _ _ _ _ ha hx17 hl17 hg17 hR1 hR2)
        · kernel_rfl
        · (rw [ht.out]; simp only [Act.put, List.setIfInBounds_toArray, List.set_cons_zero, List.set_cons_succ])
      · go_simp
        have hb := below_fresh u zBox
        have hx18 := heap_alloc_new u zBox
        have hz := World.size_alloc u zBox
        have hg18 : w4.heap.size ≤ u.heap.size := ha.size
        replace hR1 := Lib.hid (hR1.out.new hb)
        replace hR2 := Lib.hid (hR2.out.new hb)
        have hl18 : u.heap.size < (u.alloc zBox).heap.size := by omega
        replace ha := bnext ha hb
        refine hK.out _ _ (ha) (fun _ => ?_)
        clear hK K
        (try simp only [Act.put, List.setIfInBounds_toArray, List.set_cons_zero, List.set_cons_succ])
        clear hb hz
        generalize u.alloc zBox = w8 at hx18 hl18 ha hR1 hR2 ⊢
        generalize u.heap.size = X18 at hx18 hl18 hg18 hR1 hR2 ⊢
        replace hx18 := Lib.hid hx18
        replace hR1 := Lib.hid (hR1.out.sub (L' := [X18]) (by intro k hk; simp at hk ⊢; omega))
        replace hR2 := Lib.hid (hR2.out.sub (L' := [X18]) (by intro k hk; simp at hk ⊢; omega))
        refine wpH_cong ho.out hq.out hs.out ?_ ?_ (st2_2.out X18 _ _ _ _ _ _ _ _ _ _ _ _ _ _ _ _ _ _ _ ha hx18 hl18 hg18 hR1 hR2)
        · kernel_rfl
        · (rw [ht.out]; simp only [Act.put, List.setIfInBounds_toArray, List.set_cons_zero, List.set_cons_succ]))
    have st1_012 := Lib.hid (show ∀ (X16 : Nat) (X17 : Nat) (X18 : Nat) (ax1 : Option Addr) (lx1 cx1 : Nat) (ay1 : Option Addr) (ly1 cy1 : Nat) (az1 : Option Addr) (lz1 cz1 : Nat) (u : World), Below w4.heap.size w4 u → Hid (u.heap[X16]? = some zBox) → X16 < u.heap.size → w4.heap.size ≤ X16 → Hid (u.heap[X17]? = some zBox) → X17 < u.heap.size → w4.heap.size ≤ X17 → Hid (u.heap[X18]? = some zBox) → X18 < u.heap.size → w4.heap.size ≤ X18 → X16 ≠ X17 → X16 ≠ X18 → X17 ≠ X18 → Hid (RsL [X16, X17, X18] u (svS (.slice ax1 lx1 cx1) (.slice ay1 ly1 cy1) (.slice az1 lz1 cz1) S1) S1) → wpAnyH Tryz.prog .any o q s 5 #[true, true, true, true, true, false, true, true, false, true, true, true, false, false, false] (Act.put (Act.put (Act.put (Act.put t (some 34) (svS (.slice ax1 lx1 cx1) (.slice ay1 ly1 cy1) (.slice az1 lz1 cz1) S1)) (some 16) (.pointer (some ⟨X16, 0, none⟩))) (some 17) (.pointer (some ⟨X17, 0, none⟩))) (some 18) (.pointer (some ⟨X18, 0, none⟩))) u from by
      intro X16 X17 X18 ax1 lx1 cx1 ay1 ly1 cy1 az1 lz1 cz1 u ha hx16 hl16 hg16 hx17 hl17 hg17 hx18 hl18 hg18 hn1617 hn1618 hn1718 hR1
      rw [ho.out, hq.out, hs.out, ht.out]
      (try simp only [Act.put, List.setIfInBounds_toArray, List.set_cons_zero, List.set_cons_succ])
      refine wpAnyH_ready (rs := [5]) (by kernel_rfl) (by simp) ?_
      refine stepH rfl (fun K hK => ?_) AllReadyH.nil
      go_simp
      refine (HS2.out u ha).mono ?_
      rintro e w8 ⟨v2, rfl, hrf, hb⟩
      obtain ⟨ax2, lx2, cx2, ay2, ly2, cy2, az2, lz2, cz2, hv⟩ := hrf.rd.shape
      subst hv
      have hR2 := Lib.hid (RsL.of (L := [X16, X17, X18]) hrf (by intro k hk; simp at hk; omega))
      replace hR1 := Lib.hid (hR1.out.next hb)
      replace hx16 := Lib.hid (below_block hx16.out hb)
      replace hl16 := Nat.lt_of_lt_of_le hl16 hb.size
      replace hx17 := Lib.hid (below_block hx17.out hb)
      replace hl17 := Nat.lt_of_lt_of_le hl17 hb.size
      replace hx18 := Lib.hid (below_block hx18.out hb)
      replace hl18 := Nat.lt_of_lt_of_le hl18 hb.size
      replace ha := bnext ha hb
      clear hb hrf
      go_wp2_with fail
      refine hK.out _ _ (ha) (fun _ => ?_)
      clear hK K
      (try simp only [Act.put, List.setIfInBounds_toArray, List.set_cons_zero, List.set_cons_succ])
      refine wpH_cong ho.out hq.out hs.out ?_ ?_ (st2_012.out X16 X17 X18 _ _ _ _ _ _ _ _ _ _ _ _ _ _ _ _ _ _ _ ha hx16 hl16 hg16 hx17 hl17 hg17 hx18 hl18 hg18 hn1617 hn1618 hn1718 hR1 hR2)
      · kernel_rfl
      · (rw [ht.out]; simp only [Act.put, List.setIfInBounds_toArray, List.set_cons_zero, List.set_cons_succ]))
    have st1_01 := Lib.hid (show ∀ (X16 : Nat) (X17 : Nat) (ax1 : Option Addr) (lx1 cx1 : Nat) (ay1 : Option Addr) (ly1 cy1 : Nat) (az1 : Option Addr) (lz1 cz1 : Nat) (u : World), Below w4.heap.size w4 u → Hid (u.heap[X16]? = some zBox) → X16 < u.heap.size → w4.heap.size ≤ X16 → Hid (u.heap[X17]? = some zBox) → X17 < u.heap.size → w4.heap.size ≤ X17 → X16 ≠ X17 → Hid (RsL [X16, X17] u (svS (.slice ax1 lx1 cx1) (.slice ay1 ly1 cy1) (.slice az1 lz1 cz1) S1) S1) → wpAnyH Tryz.prog .any o q s 6 #[true, true, true, true, true, false, true, true, false, true, true, false, false, false, false] (Act.put (Act.put (Act.put t (some 34) (svS (.slice ax1 lx1 cx1) (.slice ay1 ly1 cy1) (.slice az1 lz1 cz1) S1)) (some 16) (.pointer (some ⟨X16, 0, none⟩))) (some 17) (.pointer (some ⟨X17, 0, none⟩))) u from by
      intro X16 X17 ax1 lx1 cx1 ay1 ly1 cy1 az1 lz1 cz1 u ha hx16 hl16 hg16 hx17 hl17 hg17 hn1617 hR1
      rw [ho.out, hq.out, hs.out, ht.out]
      (try simp only [Act.put, List.setIfInBounds_toArray, List.set_cons_zero, List.set_cons_succ])
      refine wpAnyH_ready (rs := [5, 11]) (by kernel_rfl) (by simp) ?_
      refine stepH rfl (fun K hK => ?_) (stepH rfl (fun K hK => ?_) AllReadyH.nil)
      · go_simp
        refine (HS2.out u ha).mono ?_
        rintro e w8 ⟨v2, rfl, hrf, hb⟩
        obtain ⟨ax2, lx2, cx2, ay2, ly2, cy2, az2, lz2, cz2, hv⟩ := hrf.rd.shape
        subst hv
        have hR2 := Lib.hid (RsL.of (L := [X16, X17]) hrf (by intro k hk; simp at hk; omega))
        replace hR1 := Lib.hid (hR1.out.next hb)
        replace hx16 := Lib.hid (below_block hx16.out hb)
        replace hl16 := Nat.lt_of_lt_of_le hl16 hb.size
        replace hx17 := Lib.hid (below_block hx17.out hb)
        replace hl17 := Nat.lt_of_lt_of_le hl17 hb.size
        replace ha := bnext ha hb
        clear hb hrf
        go_wp2_with fail
        refine hK.out _ _ (ha) (fun _ => ?_)
        clear hK K
        (try simp only [Act.put, List.setIfInBounds_toArray, List.set_cons_zero, List.set_cons_succ])
        refine wpH_cong ho.out hq.out hs.out ?_ ?_ (st2_01.out X16 X17 _ _ _ _ _ _ _ _ _ _ _ _ _ _ _ _ _ _ _ ha hx16 hl16 hg16 hx17 hl17 hg17 hn1617 hR1 hR2)
        · kernel_rfl
        · (rw [ht.out]; simp only [Act.put, List.setIfInBounds_toArray, List.set_cons_zero, List.set_cons_succ])
      · go_simp
        have hb := below_fresh u zBox
        have hx18 := heap_alloc_new u zBox
        have hz := World.size_alloc u zBox
        have hg18 : w4.heap.size ≤ u.heap.size := ha.size
        replace hR1 := Lib.hid (hR1.out.new hb)
        replace hx16 := Lib.hid (below_block hx16.out hb)
        have hn1618 : X16 ≠ u.heap.size := by omega
        replace hl16 : X16 < (u.alloc zBox).heap.size := by omega
        replace hx17 := Lib.hid (below_block hx17.out hb)
        have hn1718 : X17 ≠ u.heap.size := by omega
        replace hl17 : X17 < (u.alloc zBox).heap.size := by omega
        have hl18 : u.heap.size < (u.alloc zBox).heap.size := by omega
        replace ha := bnext ha hb
        refine hK.out _ _ (ha) (fun _ => ?_)
        clear hK K
        (try simp only [Act.put, List.setIfInBounds_toArray, List.set_cons_zero, List.set_cons_succ])
        clear hb hz
        generalize u.alloc zBox = w8 at hx18 hl18 ha hR1 hx16 hl16 hx17 hl17 ⊢
        generalize u.heap.size = X18 at hx18 hl18 hg18 hR1 hn1618 hn1718 ⊢
        replace hx18 := Lib.hid hx18
        replace hR1 := Lib.hid (hR1.out.sub (L' := [X16, X17, X18]) (by intro k hk; simp at hk ⊢; omega))
        refine wpH_cong ho.out hq.out hs.out ?_ ?_ (st1_012.out X16 X17 X18 _ _ _ _ _ _ _ _ _ _ ha hx16 hl16 hg16 hx17 hl17 hg17 hx18 hl18 hg18 hn1617 hn1618 hn1718 hR1)
        · kernel_rfl
        · (rw [ht.out]; simp only [Act.put, List.setIfInBounds_toArray, List.set_cons_zero, List.set_cons_succ]))
    have st1_02 := Lib.hid (show ∀ (X16 : Nat) (X18 : Nat) (ax1 : Option Addr) (lx1 cx1 : Nat) (ay1 : Option Addr) (ly1 cy1 : Nat) (az1 : Option Addr) (lz1 cz1 : Nat) (u : World), Below w4.heap.size w4 u → Hid (u.heap[X16]? = some zBox) → X16 < u.heap.size → w4.heap.size ≤ X16 → Hid (u.heap[X18]? = some zBox) → X18 < u.heap.size → w4.heap.size ≤ X18 → X16 ≠ X18 → Hid (RsL [X16, X18] u (svS (.slice ax1 lx1 cx1) (.slice ay1 ly1 cy1) (.slice az1 lz1 cz1) S1) S1) → wpAnyH Tryz.prog .any o q s 6 #[true, true, true, true, true, false, true, true, false, true, false, true, false, false, false] (Act.put (Act.put (Act.put t (some 34) (svS (.slice ax1 lx1 cx1) (.slice ay1 ly1 cy1) (.slice az1 lz1 cz1) S1)) (some 16) (.pointer (some ⟨X16, 0, none⟩))) (some 18) (.pointer (some ⟨X18, 0, none⟩))) u from by
      intro X16 X18 ax1 lx1 cx1 ay1 ly1 cy1 az1 lz1 cz1 u ha hx16 hl16 hg16 hx18 hl18 hg18 hn1618 hR1
      rw [ho.out, hq.out, hs.out, ht.out]
      (try simp only [Act.put, List.setIfInBounds_toArray, List.set_cons_zero, List.set_cons_succ])
      refine wpAnyH_ready (rs := [5, 10]) (by kernel_rfl) (by simp) ?_
      refine stepH rfl (fun K hK => ?_) (stepH rfl (fun K hK => ?_) AllReadyH.nil)
      · go_simp
        refine (HS2.out u ha).mono ?_
        rintro e w8 ⟨v2, rfl, hrf, hb⟩
        obtain ⟨ax2, lx2, cx2, ay2, ly2, cy2, az2, lz2, cz2, hv⟩ := hrf.rd.shape
        subst hv
        have hR2 := Lib.hid (RsL.of (L := [X16, X18]) hrf (by intro k hk; simp at hk; omega))
        replace hR1 := Lib.hid (hR1.out.next hb)
        replace hx16 := Lib.hid (below_block hx16.out hb)
        replace hl16 := Nat.lt_of_lt_of_le hl16 hb.size
        replace hx18 := Lib.hid (below_block hx18.out hb)
        replace hl18 := Nat.lt_of_lt_of_le hl18 hb.size
        replace ha := bnext ha hb
        clear hb hrf
        go_wp2_with fail
        refine hK.out _ _ (ha) (fun _ => ?_)
        clear hK K
        (try simp only [Act.put, List.setIfInBounds_toArray, List.set_cons_zero, List.set_cons_succ])
        refine wpH_cong ho.out hq.out hs.out ?_ ?_ (st2_02.out X16 X18 _ _ _ _ _ _ _ _ _ _ _ _ _ _ _ _ _ _ _ ha hx16 hl16 hg16 hx18 hl18 hg18 hn1618 hR1 hR2)
        · kernel_rfl
        · (rw [ht.out]; simp only [Act.put, List.setIfInBounds_toArray, List.set_cons_zero, List.set_cons_succ])
      · go_simp
        have hb := below_fresh u zBox
        have hx17 := heap_alloc_new u zBox
        have hz := World.size_alloc u zBox
        have hg17 : w4.heap.size ≤ u.heap.size := ha.size
        replace hR1 := Lib.hid (hR1.out.new hb)
        replace hx16 := Lib.hid (below_block hx16.out hb)
        have hn1617 : X16 ≠ u.heap.size := by omega
        replace hl16 : X16 < (u.alloc zBox).heap.size := by omega
        replace hx18 := Lib.hid (below_block hx18.out hb)
        have hn1718 : u.heap.size ≠ X18 := by omega
        replace hl18 : X18 < (u.alloc zBox).heap.size := by omega
        have hl17 : u.heap.size < (u.alloc zBox).heap.size := by omega
        replace ha := bnext ha hb
        refine hK.out _ _ (ha) (fun _ => ?_)
        clear hK K
        (try simp only [Act.put, List.setIfInBounds_toArray, List.set_cons_zero, List.set_cons_succ])
        clear hb hz
        generalize u.alloc zBox = w8 at hx17 hl17 ha hR1 hx16 hl16 hx18 hl18 ⊢
        generalize u.heap.size = X17 at hx17 hl17 hg17 hR1 hn1617 hn1718 ⊢
        replace hx17 := Lib.hid hx17
        replace hR1 := Lib.hid (hR1.out.sub (L' := [X16, X17, X18]) (by intro k hk; simp at hk ⊢; omega))
        refine wpH_cong ho.out hq.out hs.out ?_ ?_ (st1_012.out X16 X17 X18 _ _ _ _ _ _ _ _ _ _ ha hx16 hl16 hg16 hx17 hl17 hg17 hx18 hl18 hg18 hn1617 hn1618 hn1718 hR1)
        · kernel_rfl
        · (rw [ht.out]; simp only [Act.put, List.setIfInBounds_toArray, List.set_cons_zero, List.set_cons_succ]))
    have st1_12 := Lib.hid (show ∀ (X17 : Nat) (X18 : Nat) (ax1 : Option Addr) (lx1 cx1 : Nat) (ay1 : Option Addr) (ly1 cy1 : Nat) (az1 : Option Addr) (lz1 cz1 : Nat) (u : World), Below w4.heap.size w4 u → Hid (u.heap[X17]? = some zBox) → X17 < u.heap.size → w4.heap.size ≤ X17 → Hid (u.heap[X18]? = some zBox) → X18 < u.heap.size → w4.heap.size ≤ X18 → X17 ≠ X18 → Hid (RsL [X17, X18] u (svS (.slice ax1 lx1 cx1) (.slice ay1 ly1 cy1) (.slice az1 lz1 cz1) S1) S1) → wpAnyH Tryz.prog .any o q s 6 #[true, true, true, true, true, false, true, true, false, false, true, true, false, false, false] (Act.put (Act.put (Act.put t (some 34) (svS (.slice ax1 lx1 cx1) (.slice ay1 ly1 cy1) (.slice az1 lz1 cz1) S1)) (some 17) (.pointer (some ⟨X17, 0, none⟩))) (some 18) (.pointer (some ⟨X18, 0, none⟩))) u from by
      intro X17 X18 ax1 lx1 cx1 ay1 ly1 cy1 az1 lz1 cz1 u ha hx17 hl17 hg17 hx18 hl18 hg18 hn1718 hR1
      rw [ho.out, hq.out, hs.out, ht.out]
      (try simp only [Act.put, List.setIfInBounds_toArray, List.set_cons_zero, List.set_cons_succ])
      refine wpAnyH_ready (rs := [5, 9]) (by kernel_rfl) (by simp) ?_
      refine stepH rfl (fun K hK => ?_) (stepH rfl (fun K hK => ?_) AllReadyH.nil)
      · go_simp
        refine (HS2.out u ha).mono ?_
        rintro e w8 ⟨v2, rfl, hrf, hb⟩
        obtain ⟨ax2, lx2, cx2, ay2, ly2, cy2, az2, lz2, cz2, hv⟩ := hrf.rd.shape
        subst hv
        have hR2 := Lib.hid (RsL.of (L := [X17, X18]) hrf (by intro k hk; simp at hk; omega))
        replace hR1 := Lib.hid (hR1.out.next hb)
        replace hx17 := Lib.hid (below_block hx17.out hb)
        replace hl17 := Nat.lt_of_lt_of_le hl17 hb.size
        replace hx18 := Lib.hid (below_block hx18.out hb)
        replace hl18 := Nat.lt_of_lt_of_le hl18 hb.size
        replace ha := bnext ha hb
        clear hb hrf
        go_wp2_with fail
        refine hK.out _ _ (ha) (fun _ => ?_)
        clear hK K
        (try simp only [Act.put, List.setIfInBounds_toArray, List.set_cons_zero, List.set_cons_succ])
        refine wpH_cong ho.out hq.out hs.out ?_ ?_ (st2_12.out X17 X18 _ _ _ _ _ _ _ _ _ _ _ _ _ _ _ _ _ _ _ ha hx17 hl17 hg17 hx18 hl18 hg18 hn1718 hR1 hR2)
        · kernel_rfl
        · (rw [ht.out]; simp only [Act.put, List.setIfInBounds_toArray, List.set_cons_zero, List.set_cons_succ])
      · go_simp
        have hb := below_fresh u zBox
        have hx16 := heap_alloc_new u zBox
        have hz := World.size_alloc u zBox
        have hg16 : w4.heap.size ≤ u.heap.size := ha.size
        replace hR1 := Lib.hid (hR1.out.new hb)
        replace hx17 := Lib.hid (below_block hx17.out hb)
        have hn1617 : u.heap.size ≠ X17 := by omega
        replace hl17 : X17 < (u.alloc zBox).heap.size := by omega
        replace hx18 := Lib.hid (below_block hx18.out hb)
        have hn1618 : u.heap.size ≠ X18 := by omega
        replace hl18 : X18 < (u.alloc zBox).heap.size := by omega
        have hl16 : u.heap.size < (u.alloc zBox).heap.size := by omega
        replace ha := bnext ha hb
        refine hK.out _ _ (ha) (fun _ => ?_)
        clear hK K
        (try simp only [Act.put, List.setIfInBounds_toArray, List.set_cons_zero, List.set_cons_succ])
        clear hb hz
        generalize u.alloc zBox = w8 at hx16 hl16 ha hR1 hx17 hl17 hx18 hl18 ⊢
        generalize u.heap.size = X16 at hx16 hl16 hg16 hR1 hn1617 hn1618 ⊢
        replace hx16 := Lib.hid hx16
        replace hR1 := Lib.hid (hR1.out.sub (L' := [X16, X17, X18]) (by intro k hk; simp at hk ⊢; omega))
        refine wpH_cong ho.out hq.out hs.out ?_ ?_ (st1_012.out X16 X17 X18 _ _ _ _ _ _ _ _ _ _ ha hx16 hl16 hg16 hx17 hl17 hg17 hx18 hl18 hg18 hn1617 hn1618 hn1718 hR1)
        · kernel_rfl
        · (rw [ht.out]; simp only [Act.put, List.setIfInBounds_toArray, List.set_cons_zero, List.set_cons_succ]))
    have st1_0 := Lib.hid (show ∀ (X16 : Nat) (ax1 : Option Addr) (lx1 cx1 : Nat) (ay1 : Option Addr) (ly1 cy1 : Nat) (az1 : Option Addr) (lz1 cz1 : Nat) (u : World), Below w4.heap.size w4 u → Hid (u.heap[X16]? = some zBox) → X16 < u.heap.size → w4.heap.size ≤ X16 → Hid (RsL [X16] u (svS (.slice ax1 lx1 cx1) (.slice ay1 ly1 cy1) (.slice az1 lz1 cz1) S1) S1) → wpAnyH Tryz.prog .any o q s 7 #[true, true, true, true, true, false, true, true, false, true, false, false, false, false, false] (Act.put (Act.put t (some 34) (svS (.slice ax1 lx1 cx1) (.slice ay1 ly1 cy1) (.slice az1 lz1 cz1) S1)) (some 16) (.pointer (some ⟨X16, 0, none⟩))) u from by
      intro X16 ax1 lx1 cx1 ay1 ly1 cy1 az1 lz1 cz1 u ha hx16 hl16 hg16 hR1
      rw [ho.out, hq.out, hs.out, ht.out]
      (try simp only [Act.put, List.setIfInBounds_toArray, List.set_cons_zero, List.set_cons_succ])
      refine wpAnyH_ready (rs := [5, 10, 11]) (by kernel_rfl) (by simp) ?_
      refine stepH rfl (fun K hK => ?_) (stepH rfl (fun K hK => ?_) (stepH rfl (fun K hK => ?_) AllReadyH.nil))
      · go_simp
        refine (HS2.out u ha).mono ?_
        rintro e w8 ⟨v2, rfl, hrf, hb⟩
        obtain ⟨ax2, lx2, cx2, ay2, ly2, cy2, az2, lz2, cz2, hv⟩ := hrf.rd.shape
        subst hv
        have hR2 := Lib.hid (RsL.of (L := [X16]) hrf (by intro k hk; simp at hk; omega))
        replace hR1 := Lib.hid (hR1.out.next hb)
        replace hx16 := Lib.hid (below_block hx16.out hb)
        replace hl16 := Nat.lt_of_lt_of_le hl16 hb.size
        replace ha := bnext ha hb
        clear hb hrf
        go_wp2_with fail
        refine hK.out _ _ (ha) (fun _ => ?_)
        clear hK K
        (try simp only [Act.put, List.setIfInBounds_toArray, List.set_cons_zero, List.set_cons_succ])
        refine wpH_cong ho.out hq.out hs.out ?_ ?_ (st2_0.out X16 _ _ _ _ _ _ _ _ _ _ _ _ _ _ _ _ _ _ _ ha hx16 hl16 hg16 hR1 hR2)
        · kernel_rfl
        · (rw [ht.out]; simp only [Act.put, List.setIfInBounds_toArray, List.set_cons_zero, List.set_cons_succ])
      · go_simp
        have hb := below_fresh u zBox
        have hx17 := heap_alloc_new u zBox
        have hz := World.size_alloc u zBox
        have hg17 : w4.heap.size ≤ u.heap.size := ha.size
        replace hR1 := Lib.hid (hR1.out.new hb)
        replace hx16 := Lib.hid (below_block hx16.out hb)
        have hn1617 : X16 ≠ u.heap.size := by omega
        replace hl16 : X16 < (u.alloc zBox).heap.size := by omega
        have hl17 : u.heap.size < (u.alloc zBox).heap.size := by omega
        replace ha := bnext ha hb
        refine hK.out _ _ (ha) (fun _ => ?_)
        clear hK K
        (try simp only [Act.put, List.setIfInBounds_toArray, List.set_cons_zero, List.set_cons_succ])
        clear hb hz
        generalize u.alloc zBox = w8 at hx17 hl17 ha hR1 hx16 hl16 ⊢
        generalize u.heap.size = X17 at hx17 hl17 hg17 hR1 hn1617 ⊢
        replace hx17 := Lib.hid hx17
        replace hR1 := Lib.hid (hR1.out.sub (L' := [X16, X17]) (by intro k hk; simp at hk ⊢; omega))
        refine wpH_cong ho.out hq.out hs.out ?_ ?_ (st1_01.out X16 X17 _ _ _ _ _ _ _ _ _ _ ha hx16 hl16 hg16 hx17 hl17 hg17 hn1617 hR1)
        · kernel_rfl
        · (rw [ht.out]; simp only [Act.put, List.setIfInBounds_toArray, List.set_cons_zero, List.set_cons_succ])
      · go_simp
        have hb := below_fresh u zBox
        have hx18 := heap_alloc_new u zBox
        have hz := World.size_alloc u zBox
        have hg18 : w4.heap.size ≤ u.heap.size := ha.size
        replace hR1 := Lib.hid (hR1.out.new hb)
        replace hx16 := Lib.hid (below_block hx16.out hb)
        have hn1618 : X16 ≠ u.heap.size := by omega
        replace hl16 : X16 < (u.alloc zBox).heap.size := by omega
        have hl18 : u.heap.size < (u.alloc zBox).heap.size := by omega
        replace ha := bnext ha hb
        refine hK.out _ _ (ha) (fun _ => ?_)
        clear hK K
        (try simp only [Act.put, List.setIfInBounds_toArray, List.set_cons_zero, List.set_cons_succ])
        clear hb hz
        generalize u.alloc zBox = w8 at hx18 hl18 ha hR1 hx16 hl16 ⊢
        generalize u.heap.size = X18 at hx18 hl18 hg18 hR1 hn1618 ⊢
        replace hx18 := Lib.hid hx18
        replace hR1 := Lib.hid (hR1.out.sub (L' := [X16, X18]) (by intro k hk; simp at hk ⊢; omega))
        refine wpH_cong ho.out hq.out hs.out ?_ ?_ (st1_02.out X16 X18 _ _ _ _ _ _ _ _ _ _ ha hx16 hl16 hg16 hx18 hl18 hg18 hn1618 hR1)
        · kernel_rfl
        · (rw [ht.out]; simp only [Act.put, List.setIfInBounds_toArray, List.set_cons_zero, List.set_cons_succ]))
    have st1_1 := Lib.hid (show ∀ (X17 : Nat) (ax1 : Option Addr) (lx1 cx1 : Nat) (ay1 : Option Addr) (ly1 cy1 : Nat) (az1 : Option Addr) (lz1 cz1 : Nat) (u : World), Below w4.heap.size w4 u → Hid (u.heap[X17]? = some zBox) → X17 < u.heap.size → w4.heap.size ≤ X17 → Hid (RsL [X17] u (svS (.slice ax1 lx1 cx1) (.slice ay1 ly1 cy1) (.slice az1 lz1 cz1) S1) S1) → wpAnyH Tryz.prog .any o q s 7 #[true, true, true, true, true, false, true, true, false, false, true, false, false, false, false] (Act.put (Act.put t (some 34) (svS (.slice ax1 lx1 cx1) (.slice ay1 ly1 cy1) (.slice az1 lz1 cz1) S1)) (some 17) (.pointer (some ⟨X17, 0, none⟩))) u from by
      intro X17 ax1 lx1 cx1 ay1 ly1 cy1 az1 lz1 cz1 u ha hx17 hl17 hg17 hR1
      rw [ho.out, hq.out, hs.out, ht.out]
      (try simp only [Act.put, List.setIfInBounds_toArray, List.set_cons_zero, List.set_cons_succ])
      refine wpAnyH_ready (rs := [5, 9, 11]) (by kernel_rfl) (by simp) ?_
      refine stepH rfl (fun K hK => ?_) (stepH rfl (fun K hK => ?_) (stepH rfl (fun K hK => ?_) AllReadyH.nil))
      · go_simp
        refine (HS2.out u ha).mono ?_
        rintro e w8 ⟨v2, rfl, hrf, hb⟩
        obtain ⟨ax2, lx2, cx2, ay2, ly2, cy2, az2, lz2, cz2, hv⟩ := hrf.rd.shape
        subst hv
        have hR2 := Lib.hid (RsL.of (L := [X17]) hrf (by intro k hk; simp at hk; omega))
        replace hR1 := Lib.hid (hR1.out.next hb)
        replace hx17 := Lib.hid (below_block hx17.out hb)
        replace hl17 := Nat.lt_of_lt_of_le hl17 hb.size
        replace ha := bnext ha hb
        clear hb hrf
        go_wp2_with fail
        refine hK.out _ _ (ha) (fun _ => ?_)
        clear hK K
        (try simp only [Act.put, List.setIfInBounds_toArray, List.set_cons_zero, List.set_cons_succ])
        refine wpH_cong ho.out hq.out hs.out ?_ ?_ (st2_1.out X17 _ _ _ _ _ _ _ _ _ _ _ _ _ _ _ _ _ _ _ ha hx17 hl17 hg17 hR1 hR2)
        · kernel_rfl
        · (rw [ht.out]; simp only [Act.put, List.setIfInBounds_toArray, List.set_cons_zero, List.set_cons_succ])
      · go_simp
        have hb := below_fresh u zBox
        have hx16 := heap_alloc_new u zBox
        have hz := World.size_alloc u zBox
        have hg16 : w4.heap.size ≤ u.heap.size := ha.size
        replace hR1 := Lib.hid (hR1.out.new hb)
        replace hx17 := Lib.hid (below_block hx17.out hb)
        have hn1617 : u.heap.size ≠ X17 := by omega
        replace hl17 : X17 < (u.alloc zBox).heap.size := by omega
        have hl16 : u.heap.size < (u.alloc zBox).heap.size := by omega
        replace ha := bnext ha hb
        refine hK.out _ _ (ha) (fun _ => ?_)
        clear hK K
        (try simp only [Act.put, List.setIfInBounds_toArray, List.set_cons_zero, List.set_cons_succ])
        clear hb hz
        generalize u.alloc zBox = w8 at hx16 hl16 ha hR1 hx17 hl17 ⊢
        generalize u.heap.size = X16 at hx16 hl16 hg16 hR1 hn1617 ⊢
        replace hx16 := Lib.hid hx16
        replace hR1 := Lib.hid (hR1.out.sub (L' := [X16, X17]) (by intro k hk; simp at hk ⊢; omega))
        refine wpH_cong ho.out hq.out hs.out ?_ ?_ (st1_01.out X16 X17 _ _ _ _ _ _ _ _ _ _ ha hx16 hl16 hg16 hx17 hl17 hg17 hn1617 hR1)
        · kernel_rfl
        · (rw [ht.out]; simp only [Act.put, List.setIfInBounds_toArray, List.set_cons_zero, List.set_cons_succ])
      · go_simp
        have hb := below_fresh u zBox
        have hx18 := heap_alloc_new u zBox
        have hz := World.size_alloc u zBox
        have hg18 : w4.heap.size ≤ u.heap.size := ha.size
        replace hR1 := Lib.hid (hR1.out.new hb)
        replace hx17 := Lib.hid (below_block hx17.out hb)
        have hn1718 : X17 ≠ u.heap.size := by omega
        replace hl17 : X17 < (u.alloc zBox).heap.size := by omega
        have hl18 : u.heap.size < (u.alloc zBox).heap.size := by omega
        replace ha := bnext ha hb
        refine hK.out _ _ (ha) (fun _ => ?_)
        clear hK K
        (try simp only [Act.put, List.setIfInBounds_toArray, List.set_cons_zero, List.set_cons_succ])
        clear hb hz
        generalize u.alloc zBox = w8 at hx18 hl18 ha hR1 hx17 hl17 ⊢
        generalize u.heap.size = X18 at hx18 hl18 hg18 hR1 hn1718 ⊢
        replace hx18 := Lib.hid hx18
        replace hR1 := Lib.hid (hR1.out.sub (L' := [X17, X18]) (by intro k hk; simp at hk ⊢; omega))
        refine wpH_cong ho.out hq.out hs.out ?_ ?_ (st1_12.out X17 X18 _ _ _ _ _ _ _ _ _ _ ha hx17 hl17 hg17 hx18 hl18 hg18 hn1718 hR1)
        · kernel_rfl
        · (rw [ht.out]; simp only [Act.put, List.setIfInBounds_toArray, List.set_cons_zero, List.set_cons_succ]))
    have st1_2 := Lib.hid (show ∀ (X18 : Nat) (ax1 : Option Addr) (lx1 cx1 : Nat) (ay1 : Option Addr) (ly1 cy1 : Nat) (az1 : Option Addr) (lz1 cz1 : Nat) (u : World), Below w4.heap.size w4 u → Hid (u.heap[X18]? = some zBox) → X18 < u.heap.size → w4.heap.size ≤ X18 → Hid (RsL [X18] u (svS (.slice ax1 lx1 cx1) (.slice ay1 ly1 cy1) (.slice az1 lz1 cz1) S1) S1) → wpAnyH Tryz.prog .any o q s 7 #[true, true, true, true, true, false, true, true, false, false, false, true, false, false, false] (Act.put (Act.put t (some 34) (svS (.slice ax1 lx1 cx1) (.slice ay1 ly1 cy1) (.slice az1 lz1 cz1) S1)) (some 18) (.pointer (some ⟨X18, 0, none⟩))) u from by
      intro X18 ax1 lx1 cx1 ay1 ly1 cy1 az1 lz1 cz1 u ha hx18 hl18 hg18 hR1
      rw [ho.out, hq.out, hs.out, ht.out]
      (try simp only [Act.put, List.setIfInBounds_toArray, List.set_cons_zero, List.set_cons_succ])
      refine wpAnyH_ready (rs := [5, 9, 10]) (by kernel_rfl) (by simp) ?_
      refine stepH rfl (fun K hK => ?_) (stepH rfl (fun K hK => ?_) (stepH rfl (fun K hK => ?_) AllReadyH.nil))
      · go_simp
        refine (HS2.out u ha).mono ?_
        rintro e w8 ⟨v2, rfl, hrf, hb⟩
        obtain ⟨ax2, lx2, cx2, ay2, ly2, cy2, az2, lz2, cz2, hv⟩ := hrf.rd.shape
        subst hv
        have hR2 := Lib.hid (RsL.of (L := [X18]) hrf (by intro k hk; simp at hk; omega))
        replace hR1 := Lib.hid (hR1.out.next hb)
        replace hx18 := Lib.hid (below_block hx18.out hb)
        replace hl18 := Nat.lt_of_lt_of_le hl18 hb.size
        replace ha := bnext ha hb
        clear hb hrf
        go_wp2_with fail
        refine hK.out _ _ (ha) (fun _ => ?_)
        clear hK K
        (try simp only [Act.put, List.setIfInBounds_toArray, List.set_cons_zero, List.set_cons_succ])
        refine wpH_cong ho.out hq.out hs.out ?_ ?_ (st2_2.out X18 _ _ _ _ _ _ _ _ _ _ _ _ _ _ _ _ _ _ _ ha hx18 hl18 hg18 hR1 hR2)
        · kernel_rfl
        · (rw [ht.out]; simp only [Act.put, List.setIfInBounds_toArray, List.set_cons_zero, List.set_cons_succ])
      · go_simp
        have hb := below_fresh u zBox
        have hx16 := heap_alloc_new u zBox
        have hz := World.size_alloc u zBox
        have hg16 : w4.heap.size ≤ u.heap.size := ha.size
        replace hR1 := Lib.hid (hR1.out.new hb)
        replace hx18 := Lib.hid (below_block hx18.out hb)
        have hn1618 : u.heap.size ≠ X18 := by omega
        replace hl18 : X18 < (u.alloc zBox).heap.size := by omega
        have hl16 : u.heap.size < (u.alloc zBox).heap.size := by omega
        replace ha := bnext ha hb
        refine hK.out _ _ (ha) (fun _ => ?_)
        clear hK K
        (try simp only [Act.put, List.setIfInBounds_toArray, List.set_cons_zero, List.set_cons_succ])
        clear hb hz
        generalize u.alloc zBox = w8 at hx16 hl16 ha hR1 hx18 hl18 ⊢
        generalize u.heap.size = X16 at hx16 hl16 hg16 hR1 hn1618 ⊢
        replace hx16 := Lib.hid hx16
        replace hR1 := Lib.hid (hR1.out.sub (L' := [X16, X18]) (by intro k hk; simp at hk ⊢; omega))
        refine wpH_cong ho.out hq.out hs.out ?_ ?_ (st1_02.out X16 X18 _ _ _ _ _ _ _ _ _ _ ha hx16 hl16 hg16 hx18 hl18 hg18 hn1618 hR1)
        · kernel_rfl
        · (rw [ht.out]; simp only [Act.put, List.setIfInBounds_toArray, List.set_cons_zero, List.set_cons_succ])
      · go_simp
        have hb := below_fresh u zBox
        have hx17 := heap_alloc_new u zBox
        have hz := World.size_alloc u zBox
        have hg17 : w4.heap.size ≤ u.heap.size := ha.size
        replace hR1 := Lib.hid (hR1.out.new hb)
        replace hx18 := Lib.hid (below_block hx18.out hb)
        have hn1718 : u.heap.size ≠ X18 := by omega
        replace hl18 : X18 < (u.alloc zBox).heap.size := by omega
        have hl17 : u.heap.size < (u.alloc zBox).heap.size := by omega
        replace ha := bnext ha hb
        refine hK.out _ _ (ha) (fun _ => ?_)
        clear hK K
        (try simp only [Act.put, List.setIfInBounds_toArray, List.set_cons_zero, List.set_cons_succ])
        clear hb hz
        generalize u.alloc zBox = w8 at hx17 hl17 ha hR1 hx18 hl18 ⊢
        generalize u.heap.size = X17 at hx17 hl17 hg17 hR1 hn1718 ⊢
        replace hx17 := Lib.hid hx17
        replace hR1 := Lib.hid (hR1.out.sub (L' := [X17, X18]) (by intro k hk; simp at hk ⊢; omega))
        refine wpH_cong ho.out hq.out hs.out ?_ ?_ (st1_12.out X17 X18 _ _ _ _ _ _ _ _ _ _ ha hx17 hl17 hg17 hx18 hl18 hg18 hn1718 hR1)
        · kernel_rfl
        · (rw [ht.out]; simp only [Act.put, List.setIfInBounds_toArray, List.set_cons_zero, List.set_cons_succ]))
    have st1_ := Lib.hid (show ∀ (ax1 : Option Addr) (lx1 cx1 : Nat) (ay1 : Option Addr) (ly1 cy1 : Nat) (az1 : Option Addr) (lz1 cz1 : Nat) (u : World), Below w4.heap.size w4 u → Hid (RsL [] u (svS (.slice ax1 lx1 cx1) (.slice ay1 ly1 cy1) (.slice az1 lz1 cz1) S1) S1) → wpAnyH Tryz.prog .any o q s 8 #[true, true, true, true, true, false, true, true, false, false, false, false, false, false, false] (Act.put t (some 34) (svS (.slice ax1 lx1 cx1) (.slice ay1 ly1 cy1) (.slice az1 lz1 cz1) S1)) u from by
      intro ax1 lx1 cx1 ay1 ly1 cy1 az1 lz1 cz1 u ha hR1
      rw [ho.out, hq.out, hs.out, ht.out]
      (try simp only [Act.put, List.setIfInBounds_toArray, List.set_cons_zero, List.set_cons_succ])
      refine wpAnyH_ready (rs := [5, 9, 10, 11]) (by kernel_rfl) (by simp) ?_
      refine stepH rfl (fun K hK => ?_) (stepH rfl (fun K hK => ?_) (stepH rfl (fun K hK => ?_) (stepH rfl (fun K hK => ?_) AllReadyH.nil)))
      · go_simp
        refine (HS2.out u ha).mono ?_
        rintro e w8 ⟨v2, rfl, hrf, hb⟩
        obtain ⟨ax2, lx2, cx2, ay2, ly2, cy2, az2, lz2, cz2, hv⟩ := hrf.rd.shape
        subst hv
        have hR2 := Lib.hid (RsL.of (L := []) hrf (by intro k hk; simp at hk))
        replace hR1 := Lib.hid (hR1.out.next hb)
        replace ha := bnext ha hb
        clear hb hrf
        go_wp2_with fail
        refine hK.out _ _ (ha) (fun _ => ?_)
        clear hK K
        (try simp only [Act.put, List.setIfInBounds_toArray, List.set_cons_zero, List.set_cons_succ])
        refine wpH_cong ho.out hq.out hs.out ?_ ?_ (st2_.out _ _ _ _ _ _ _ _ _ _ _ _ _ _ _ _ _ _ _ ha hR1 hR2)
        · kernel_rfl
        · (rw [ht.out]; simp only [Act.put, List.setIfInBounds_toArray, List.set_cons_zero, List.set_cons_succ])
      · go_simp
        have hb := below_fresh u zBox
        have hx16 := heap_alloc_new u zBox
        have hz := World.size_alloc u zBox
        have hg16 : w4.heap.size ≤ u.heap.size := ha.size
        replace hR1 := Lib.hid (hR1.out.new hb)
        have hl16 : u.heap.size < (u.alloc zBox).heap.size := by omega
        replace ha := bnext ha hb
        refine hK.out _ _ (ha) (fun _ => ?_)
        clear hK K
        (try simp only [Act.put, List.setIfInBounds_toArray, List.set_cons_zero, List.set_cons_succ])
        clear hb hz
        generalize u.alloc zBox = w8 at hx16 hl16 ha hR1 ⊢
        generalize u.heap.size = X16 at hx16 hl16 hg16 hR1 ⊢
        replace hx16 := Lib.hid hx16
        replace hR1 := Lib.hid (hR1.out.sub (L' := [X16]) (by intro k hk; simp at hk ⊢; omega))
        refine wpH_cong ho.out hq.out hs.out ?_ ?_ (st1_0.out X16 _ _ _ _ _ _ _ _ _ _ ha hx16 hl16 hg16 hR1)
        · kernel_rfl
        · (rw [ht.out]; simp only [Act.put, List.setIfInBounds_toArray, List.set_cons_zero, List.set_cons_succ])
      · go_simp
        have hb := below_fresh u zBox
        have hx17 := heap_alloc_new u zBox
        have hz := World.size_alloc u zBox
        have hg17 : w4.heap.size ≤ u.heap.size := ha.size
        replace hR1 := Lib.hid (hR1.out.new hb)
        have hl17 : u.heap.size < (u.alloc zBox).heap.size := by omega
        replace ha := bnext ha hb
        refine hK.out _ _ (ha) (fun _ => ?_)
        clear hK K
        (try simp only [Act.put, List.setIfInBounds_toArray, List.set_cons_zero, List.set_cons_succ])
        clear hb hz
        generalize u.alloc zBox = w8 at hx17 hl17 ha hR1 ⊢
        generalize u.heap.size = X17 at hx17 hl17 hg17 hR1 ⊢
        replace hx17 := Lib.hid hx17
        replace hR1 := Lib.hid (hR1.out.sub (L' := [X17]) (by intro k hk; simp at hk ⊢; omega))
        refine wpH_cong ho.out hq.out hs.out ?_ ?_ (st1_1.out X17 _ _ _ _ _ _ _ _ _ _ ha hx17 hl17 hg17 hR1)
        · kernel_rfl
        · (rw [ht.out]; simp only [Act.put, List.setIfInBounds_toArray, List.set_cons_zero, List.set_cons_succ])
      · go_simp
        have hb := below_fresh u zBox
        have hx18 := heap_alloc_new u zBox
        have hz := World.size_alloc u zBox
        have hg18 : w4.heap.size ≤ u.heap.size := ha.size
        replace hR1 := Lib.hid (hR1.out.new hb)
        have hl18 : u.heap.size < (u.alloc zBox).heap.size := by omega
        replace ha := bnext ha hb
        refine hK.out _ _ (ha) (fun _ => ?_)
        clear hK K
        (try simp only [Act.put, List.setIfInBounds_toArray, List.set_cons_zero, List.set_cons_succ])
        clear hb hz
        generalize u.alloc zBox = w8 at hx18 hl18 ha hR1 ⊢
        generalize u.heap.size = X18 at hx18 hl18 hg18 hR1 ⊢
        replace hx18 := Lib.hid hx18
        replace hR1 := Lib.hid (hR1.out.sub (L' := [X18]) (by intro k hk; simp at hk ⊢; omega))
        refine wpH_cong ho.out hq.out hs.out ?_ ?_ (st1_2.out X18 _ _ _ _ _ _ _ _ _ _ ha hx18 hl18 hg18 hR1)
        · kernel_rfl
        · (rw [ht.out]; simp only [Act.put, List.setIfInBounds_toArray, List.set_cons_zero, List.set_cons_succ]))
    have st0_012 := Lib.hid (show ∀ (X16 : Nat) (X17 : Nat) (X18 : Nat) (u : World), Below w4.heap.size w4 u → Hid (u.heap[X16]? = some zBox) → X16 < u.heap.size → w4.heap.size ≤ X16 → Hid (u.heap[X17]? = some zBox) → X17 < u.heap.size → w4.heap.size ≤ X17 → Hid (u.heap[X18]? = some zBox) → X18 < u.heap.size → w4.heap.size ≤ X18 → X16 ≠ X17 → X16 ≠ X18 → X17 ≠ X18 → wpAnyH Tryz.prog .any o q s 6 #[true, true, false, true, true, false, true, true, false, true, true, true, false, false, false] (Act.put (Act.put (Act.put t (some 16) (.pointer (some ⟨X16, 0, none⟩))) (some 17) (.pointer (some ⟨X17, 0, none⟩))) (some 18) (.pointer (some ⟨X18, 0, none⟩))) u from by
      intro X16 X17 X18 u ha hx16 hl16 hg16 hx17 hl17 hg17 hx18 hl18 hg18 hn1617 hn1618 hn1718
      rw [ho.out, hq.out, hs.out, ht.out]
      (try simp only [Act.put, List.setIfInBounds_toArray, List.set_cons_zero, List.set_cons_succ])
      refine wpAnyH_ready (rs := [2]) (by kernel_rfl) (by simp) ?_
      refine stepH rfl (fun K hK => ?_) AllReadyH.nil
      go_simp
      refine (HS1.out u ha).mono ?_
      rintro e w8 ⟨v1, rfl, hrf, hb⟩
      obtain ⟨ax1, lx1, cx1, ay1, ly1, cy1, az1, lz1, cz1, hv⟩ := hrf.rd.shape
      subst hv
      have hR1 := Lib.hid (RsL.of (L := [X16, X17, X18]) hrf (by intro k hk; simp at hk; omega))
      replace hx16 := Lib.hid (below_block hx16.out hb)
      replace hl16 := Nat.lt_of_lt_of_le hl16 hb.size
      replace hx17 := Lib.hid (below_block hx17.out hb)
      replace hl17 := Nat.lt_of_lt_of_le hl17 hb.size
      replace hx18 := Lib.hid (below_block hx18.out hb)
      replace hl18 := Nat.lt_of_lt_of_le hl18 hb.size
      replace ha := bnext ha hb
      clear hb hrf
      go_wp2_with fail
      refine hK.out _ _ (ha) (fun _ => ?_)
      clear hK K
      (try simp only [Act.put, List.setIfInBounds_toArray, List.set_cons_zero, List.set_cons_succ])
      refine wpH_cong ho.out hq.out hs.out ?_ ?_ (st1_012.out X16 X17 X18 _ _ _ _ _ _ _ _ _ _ ha hx16 hl16 hg16 hx17 hl17 hg17 hx18 hl18 hg18 hn1617 hn1618 hn1718 hR1)
      · kernel_rfl
      · (rw [ht.out]; simp only [Act.put, List.setIfInBounds_toArray, List.set_cons_zero, List.set_cons_succ]))
    have st0_01 := Lib.hid (show ∀ (X16 : Nat) (X17 : Nat) (u : World), Below w4.heap.size w4 u → Hid (u.heap[X16]? = some zBox) → X16 < u.heap.size → w4.heap.size ≤ X16 → Hid (u.heap[X17]? = some zBox) → X17 < u.heap.size → w4.heap.size ≤ X17 → X16 ≠ X17 → wpAnyH Tryz.prog .any o q s 7 #[true, true, false, true, true, false, true, true, false, true, true, false, false, false, false] (Act.put (Act.put t (some 16) (.pointer (some ⟨X16, 0, none⟩))) (some 17) (.pointer (some ⟨X17, 0, none⟩))) u from by
      intro X16 X17 u ha hx16 hl16 hg16 hx17 hl17 hg17 hn1617
      rw [ho.out, hq.out, hs.out, ht.out]
      (try simp only [Act.put, List.setIfInBounds_toArray, List.set_cons_zero, List.set_cons_succ])
      refine wpAnyH_ready (rs := [2, 11]) (by kernel_rfl) (by simp) ?_
      refine stepH rfl (fun K hK => ?_) (stepH rfl (fun K hK => ?_) AllReadyH.nil)
      · go_simp
        refine (HS1.out u ha).mono ?_
        rintro e w8 ⟨v1, rfl, hrf, hb⟩
        obtain ⟨ax1, lx1, cx1, ay1, ly1, cy1, az1, lz1, cz1, hv⟩ := hrf.rd.shape
        subst hv
        have hR1 := Lib.hid (RsL.of (L := [X16, X17]) hrf (by intro k hk; simp at hk; omega))
        replace hx16 := Lib.hid (below_block hx16.out hb)
        replace hl16 := Nat.lt_of_lt_of_le hl16 hb.size
        replace hx17 := Lib.hid (below_block hx17.out hb)
        replace hl17 := Nat.lt_of_lt_of_le hl17 hb.size
        replace ha := bnext ha hb
        clear hb hrf
        go_wp2_with fail
        refine hK.out _ _ (ha) (fun _ => ?_)
        clear hK K
        (try simp only [Act.put, List.setIfInBounds_toArray, List.set_cons_zero, List.set_cons_succ])
        refine wpH_cong ho.out hq.out hs.out ?_ ?_ (st1_01.out X16 X17 _ _ _ _ _ _ _ _ _ _ ha hx16 hl16 hg16 hx17 hl17 hg17 hn1617 hR1)
        · kernel_rfl
        · (rw [ht.out]; simp only [Act.put, List.setIfInBounds_toArray, List.set_cons_zero, List.set_cons_succ])
      · go_simp
        have hb := below_fresh u zBox
        have hx18 := heap_alloc_new u zBox
        have hz := World.size_alloc u zBox
        have hg18 : w4.heap.size ≤ u.heap.size := ha.size
        replace hx16 := Lib.hid (below_block hx16.out hb)
        have hn1618 : X16 ≠ u.heap.size := by omega
        replace hl16 : X16 < (u.alloc zBox).heap.size := by omega
        replace hx17 := Lib.hid (below_block hx17.out hb)
        have hn1718 : X17 ≠ u.heap.size := by omega
        replace hl17 : X17 < (u.alloc zBox).heap.size := by omega
        have hl18 : u.heap.size < (u.alloc zBox).heap.size := by omega
        replace ha := bnext ha hb
        refine hK.out _ _ (ha) (fun _ => ?_)
        clear hK K
        (try simp only [Act.put, List.setIfInBounds_toArray, List.set_cons_zero, List.set_cons_succ])
        clear hb hz
        generalize u.alloc zBox = w8 at hx18 hl18 ha hx16 hl16 hx17 hl17 ⊢
        generalize u.heap.size = X18 at hx18 hl18 hg18 hn1618 hn1718 ⊢
        replace hx18 := Lib.hid hx18
        refine wpH_cong ho.out hq.out hs.out ?_ ?_ (st0_012.out X16 X17 X18 _ ha hx16 hl16 hg16 hx17 hl17 hg17 hx18 hl18 hg18 hn1617 hn1618 hn1718)
        · kernel_rfl
        · (rw [ht.out]; simp only [Act.put, List.setIfInBounds_toArray, List.set_cons_zero, List.set_cons_succ]))
    have st0_02 := Lib.hid (show ∀ (X16 : Nat) (X18 : Nat) (u : World), Below w4.heap.size w4 u → Hid (u.heap[X16]? = some zBox) → X16 < u.heap.size → w4.heap.size ≤ X16 → Hid (u.heap[X18]? = some zBox) → X18 < u.heap.size → w4.heap.size ≤ X18 → X16 ≠ X18 → wpAnyH Tryz.prog .any o q s 7 #[true, true, false, true, true, false, true, true, false, true, false, true, false, false, false] (Act.put (Act.put t (some 16) (.pointer (some ⟨X16, 0, none⟩))) (some 18) (.pointer (some ⟨X18, 0, none⟩))) u from by
      intro X16 X18 u ha hx16 hl16 hg16 hx18 hl18 hg18 hn1618
      rw [ho.out, hq.out, hs.out, ht.out]
      (try simp only [Act.put, List.setIfInBounds_toArray, List.set_cons_zero, List.set_cons_succ])
      refine wpAnyH_ready (rs := [2, 10]) (by kernel_rfl) (by simp) ?_
      refine stepH rfl (fun K hK => ?_) (stepH rfl (fun K hK => ?_) AllReadyH.nil)
      · go_simp
        refine (HS1.out u ha).mono ?_
        rintro e w8 ⟨v1, rfl, hrf, hb⟩
        obtain ⟨ax1, lx1, cx1, ay1, ly1, cy1, az1, lz1, cz1, hv⟩ := hrf.rd.shape
        subst hv
        have hR1 := Lib.hid (RsL.of (L := [X16, X18]) hrf (by intro k hk; simp at hk; omega))
        replace hx16 := Lib.hid (below_block hx16.out hb)
        replace hl16 := Nat.lt_of_lt_of_le hl16 hb.size
        replace hx18 := Lib.hid (below_block hx18.out hb)
        replace hl18 := Nat.lt_of_lt_of_le hl18 hb.size
        replace ha := bnext ha hb
        clear hb hrf
        go_wp2_with fail
        refine hK.out _ _ (ha) (fun _ => ?_)
        clear hK K
        (try simp only [Act.put, List.setIfInBounds_toArray, List.set_cons_zero, List.set_cons_succ])
        refine wpH_cong ho.out hq.out hs.out ?_ ?_ (st1_02.out X16 X18 _ _ _ _ _ _ _ _ _ _ ha hx16 hl16 hg16 hx18 hl18 hg18 hn1618 hR1)
        · kernel_rfl
        · (rw [ht.out]; simp only [Act.put, List.setIfInBounds_toArray, List.set_cons_zero, List.set_cons_succ])
      · go_simp
        have hb := below_fresh u zBox
        have hx17 := heap_alloc_new u zBox
        have hz := World.size_alloc u zBox
        have hg17 : w4.heap.size ≤ u.heap.size := ha.size
        replace hx16 := Lib.hid (below_block hx16.out hb)
        have hn1617 : X16 ≠ u.heap.size := by omega
        replace hl16 : X16 < (u.alloc zBox).heap.size := by omega
        replace hx18 := Lib.hid (below_block hx18.out hb)
        have hn1718 : u.heap.size ≠ X18 := by omega
        replace hl18 : X18 < (u.alloc zBox).heap.size := by omega
        have hl17 : u.heap.size < (u.alloc zBox).heap.size := by omega
        replace ha := bnext ha hb
        refine hK.out _ _ (ha) (fun _ => ?_)
        clear hK K
        (try simp only [Act.put, List.setIfInBounds_toArray, List.set_cons_zero, List.set_cons_succ])
        clear hb hz
        generalize u.alloc zBox = w8 at hx17 hl17 ha hx16 hl16 hx18 hl18 ⊢
        generalize u.heap.size = X17 at hx17 hl17 hg17 hn1617 hn1718 ⊢
        replace hx17 := Lib.hid hx17
        refine wpH_cong ho.out hq.out hs.out ?_ ?_ (st0_012.out X16 X17 X18 _ ha hx16 hl16 hg16 hx17 hl17 hg17 hx18 hl18 hg18 hn1617 hn1618 hn1718)
        · kernel_rfl
        · (rw [ht.out]; simp only [Act.put, List.setIfInBounds_toArray, List.set_cons_zero, List.set_cons_succ]))
    have st0_12 := Lib.hid (show ∀ (X17 : Nat) (X18 : Nat) (u : World), Below w4.heap.size w4 u → Hid (u.heap[X17]? = some zBox) → X17 < u.heap.size → w4.heap.size ≤ X17 → Hid (u.heap[X18]? = some zBox) → X18 < u.heap.size → w4.heap.size ≤ X18 → X17 ≠ X18 → wpAnyH Tryz.prog .any o q s 7 #[true, true, false, true, true, false, true, true, false, false, true, true, false, false, false] (Act.put (Act.put t (some 17) (.pointer (some ⟨X17, 0, none⟩))) (some 18) (.pointer (some ⟨X18, 0, none⟩))) u from by
      intro X17 X18 u ha hx17 hl17 hg17 hx18 hl18 hg18 hn1718
      rw [ho.out, hq.out, hs.out, ht.out]
      (try simp only [Act.put, List.setIfInBounds_toArray, List.set_cons_zero, List.set_cons_succ])
      refine wpAnyH_ready (rs := [2, 9]) (by kernel_rfl) (by simp) ?_
      refine stepH rfl (fun K hK => ?_) (stepH rfl (fun K hK => ?_) AllReadyH.nil)
      · go_simp
        refine (HS1.out u ha).mono ?_
        rintro e w8 ⟨v1, rfl, hrf, hb⟩
        obtain ⟨ax1, lx1, cx1, ay1, ly1, cy1, az1, lz1, cz1, hv⟩ := hrf.rd.shape
        subst hv
        have hR1 := Lib.hid (RsL.of (L := [X17, X18]) hrf (by intro k hk; simp at hk; omega))
        replace hx17 := Lib.hid (below_block hx17.out hb)
        replace hl17 := Nat.lt_of_lt_of_le hl17 hb.size
        replace hx18 := Lib.hid (below_block hx18.out hb)
        replace hl18 := Nat.lt_of_lt_of_le hl18 hb.size
        replace ha := bnext ha hb
        clear hb hrf
        go_wp2_with fail
        refine hK.out _ _ (ha) (fun _ => ?_)
        clear hK K
        (try simp only [Act.put, List.setIfInBounds_toArray, List.set_cons_zero, List.set_cons_succ])
        refine wpH_cong ho.out hq.out hs.out ?_ ?_ (st1_12.out X17 X18 _ _ _ _ _ _ _ _ _ _ ha hx17 hl17 hg17 hx18 hl18 hg18 hn1718 hR1)
        · kernel_rfl
        · (rw [ht.out]; simp only [Act.put, List.setIfInBounds_toArray, List.set_cons_zero, List.set_cons_succ])
      · go_simp
        have hb := below_fresh u zBox
        have hx16 := heap_alloc_new u zBox
        have hz := World.size_alloc u zBox
        have hg16 : w4.heap.size ≤ u.heap.size := ha.size
        replace hx17 := Lib.hid (below_block hx17.out hb)
        have hn1617 : u.heap.size ≠ X17 := by omega
        replace hl17 : X17 < (u.alloc zBox).heap.size := by omega
        replace hx18 := Lib.hid (below_block hx18.out hb)
        have hn1618 : u.heap.size ≠ X18 := by omega
        replace hl18 : X18 < (u.alloc zBox).heap.size := by omega
        have hl16 : u.heap.size < (u.alloc zBox).heap.size := by omega
        replace ha := bnext ha hb
        refine hK.out _ _ (ha) (fun _ => ?_)
        clear hK K
        (try simp only [Act.put, List.setIfInBounds_toArray, List.set_cons_zero, List.set_cons_succ])
        clear hb hz
        generalize u.alloc zBox = w8 at hx16 hl16 ha hx17 hl17 hx18 hl18 ⊢
        generalize u.heap.size = X16 at hx16 hl16 hg16 hn1617 hn1618 ⊢
        replace hx16 := Lib.hid hx16
        refine wpH_cong ho.out hq.out hs.out ?_ ?_ (st0_012.out X16 X17 X18 _ ha hx16 hl16 hg16 hx17 hl17 hg17 hx18 hl18 hg18 hn1617 hn1618 hn1718)
        · kernel_rfl
        · (rw [ht.out]; simp only [Act.put, List.setIfInBounds_toArray, List.set_cons_zero, List.set_cons_succ]))
    have st0_0 := Lib.hid (show ∀ (X16 : Nat) (u : World), Below w4.heap.size w4 u → Hid (u.heap[X16]? = some zBox) → X16 < u.heap.size → w4.heap.size ≤ X16 → wpAnyH Tryz.prog .any o q s 8 #[true, true, false, true, true, false, true, true, false, true, false, false, false, false, false] (Act.put t (some 16) (.pointer (some ⟨X16, 0, none⟩))) u from by
      intro X16 u ha hx16 hl16 hg16
      rw [ho.out, hq.out, hs.out, ht.out]
      (try simp only [Act.put, List.setIfInBounds_toArray, List.set_cons_zero, List.set_cons_succ])
      refine wpAnyH_ready (rs := [2, 10, 11]) (by kernel_rfl) (by simp) ?_
      refine stepH rfl (fun K hK => ?_) (stepH rfl (fun K hK => ?_) (stepH rfl (fun K hK => ?_) AllReadyH.nil))
      · go_simp
        refine (HS1.out u ha).mono ?_
        rintro e w8 ⟨v1, rfl, hrf, hb⟩
        obtain ⟨ax1, lx1, cx1, ay1, ly1, cy1, az1, lz1, cz1, hv⟩ := hrf.rd.shape
        subst hv
        have hR1 := Lib.hid (RsL.of (L := [X16]) hrf (by intro k hk; simp at hk; omega))
        replace hx16 := Lib.hid (below_block hx16.out hb)
        replace hl16 := Nat.lt_of_lt_of_le hl16 hb.size
        replace ha := bnext ha hb
        clear hb hrf
        go_wp2_with fail
        refine hK.out _ _ (ha) (fun _ => ?_)
        clear hK K
        (try simp only [Act.put, List.setIfInBounds_toArray, List.set_cons_zero, List.set_cons_succ])
        refine wpH_cong ho.out hq.out hs.out ?_ ?_ (st1_0.out X16 _ _ _ _ _ _ _ _ _ _ ha hx16 hl16 hg16 hR1)
        · kernel_rfl
        · (rw [ht.out]; simp only [Act.put, List.setIfInBounds_toArray, List.set_cons_zero, List.set_cons_succ])
      · go_simp
        have hb := below_fresh u zBox
        have hx17 := heap_alloc_new u zBox
        have hz := World.size_alloc u zBox
        have hg17 : w4.heap.size ≤ u.heap.size := ha.size
        replace hx16 := Lib.hid (below_block hx16.out hb)
        have hn1617 : X16 ≠ u.heap.size := by omega
        replace hl16 : X16 < (u.alloc zBox).heap.size := by omega
        have hl17 : u.heap.size < (u.alloc zBox).heap.size := by omega
        replace ha := bnext ha hb
        refine hK.out _ _ (ha) (fun _ => ?_)
        clear hK K
        (try simp only [Act.put, List.setIfInBounds_toArray, List.set_cons_zero, List.set_cons_succ])
        clear hb hz
        generalize u.alloc zBox = w8 at hx17 hl17 ha hx16 hl16 ⊢
        generalize u.heap.size = X17 at hx17 hl17 hg17 hn1617 ⊢
        replace hx17 := Lib.hid hx17
        refine wpH_cong ho.out hq.out hs.out ?_ ?_ (st0_01.out X16 X17 _ ha hx16 hl16 hg16 hx17 hl17 hg17 hn1617)
        · kernel_rfl
        · (rw [ht.out]; simp only [Act.put, List.setIfInBounds_toArray, List.set_cons_zero, List.set_cons_succ])
      · go_simp
        have hb := below_fresh u zBox
        have hx18 := heap_alloc_new u zBox
        have hz := World.size_alloc u zBox
        have hg18 : w4.heap.size ≤ u.heap.size := ha.size
        replace hx16 := Lib.hid (below_block hx16.out hb)
        have hn1618 : X16 ≠ u.heap.size := by omega
        replace hl16 : X16 < (u.alloc zBox).heap.size := by omega
        have hl18 : u.heap.size < (u.alloc zBox).heap.size := by omega
        replace ha := bnext ha hb
        refine hK.out _ _ (ha) (fun _ => ?_)
        clear hK K
        (try simp only [Act.put, List.setIfInBounds_toArray, List.set_cons_zero, List.set_cons_succ])
        clear hb hz
        generalize u.alloc zBox = w8 at hx18 hl18 ha hx16 hl16 ⊢
        generalize u.heap.size = X18 at hx18 hl18 hg18 hn1618 ⊢
        replace hx18 := Lib.hid hx18
        refine wpH_cong ho.out hq.out hs.out ?_ ?_ (st0_02.out X16 X18 _ ha hx16 hl16 hg16 hx18 hl18 hg18 hn1618)
        · kernel_rfl
        · (rw [ht.out]; simp only [Act.put, List.setIfInBounds_toArray, List.set_cons_zero, List.set_cons_succ]))
    have st0_1 := Lib.hid (show ∀ (X17 : Nat) (u : World), Below w4.heap.size w4 u → Hid (u.heap[X17]? = some zBox) → X17 < u.heap.size → w4.heap.size ≤ X17 → wpAnyH Tryz.prog .any o q s 8 #[true, true, false, true, true, false, true, true, false, false, true, false, false, false, false] (Act.put t (some 17) (.pointer (some ⟨X17, 0, none⟩))) u from by
      intro X17 u ha hx17 hl17 hg17
      rw [ho.out, hq.out, hs.out, ht.out]
      (try simp only [Act.put, List.setIfInBounds_toArray, List.set_cons_zero, List.set_cons_succ])
      refine wpAnyH_ready (rs := [2, 9, 11]) (by kernel_rfl) (by simp) ?_
      refine stepH rfl (fun K hK => ?_) (stepH rfl (fun K hK => ?_) (stepH rfl (fun K hK => ?_) AllReadyH.nil))
      · go_simp
        refine (HS1.out u ha).mono ?_
        rintro e w8 ⟨v1, rfl, hrf, hb⟩
        obtain ⟨ax1, lx1, cx1, ay1, ly1, cy1, az1, lz1, cz1, hv⟩ := hrf.rd.shape
        subst hv
        have hR1 := Lib.hid (RsL.of (L := [X17]) hrf (by intro k hk; simp at hk; omega))
        replace hx17 := Lib.hid (below_block hx17.out hb)
        replace hl17 := Nat.lt_of_lt_of_le hl17 hb.size
        replace ha := bnext ha hb
        clear hb hrf
        go_wp2_with fail
        refine hK.out _ _ (ha) (fun _ => ?_)
        clear hK K
        (try simp only [Act.put, List.setIfInBounds_toArray, List.set_cons_zero, List.set_cons_succ])
        refine wpH_cong ho.out hq.out hs.out ?_ ?_ (st1_1.out X17 _ _ _ _ _ _ _ _ _ _ ha hx17 hl17 hg17 hR1)
        · kernel_rfl
        · (rw [ht.out]; simp only [Act.put, List.setIfInBounds_toArray, List.set_cons_zero, List.set_cons_succ])
      · go_simp
        have hb := below_fresh u zBox
        have hx16 := heap_alloc_new u zBox
        have hz := World.size_alloc u zBox
        have hg16 : w4.heap.size ≤ u.heap.size := ha.size
        replace hx17 := Lib.hid (below_block hx17.out hb)
        have hn1617 : u.heap.size ≠ X17 := by omega
        replace hl17 : X17 < (u.alloc zBox).heap.size := by omega
        have hl16 : u.heap.size < (u.alloc zBox).heap.size := by omega
        replace ha := bnext ha hb
        refine hK.out _ _ (ha) (fun _ => ?_)
        clear hK K
        (try simp only [Act.put, List.setIfInBounds_toArray, List.set_cons_zero, List.set_cons_succ])
        clear hb hz
        generalize u.alloc zBox = w8 at hx16 hl16 ha hx17 hl17 ⊢
        generalize u.heap.size = X16 at hx16 hl16 hg16 hn1617 ⊢
        replace hx16 := Lib.hid hx16
        refine wpH_cong ho.out hq.out hs.out ?_ ?_ (st0_01.out X16 X17 _ ha hx16 hl16 hg16 hx17 hl17 hg17 hn1617)
        · kernel_rfl
        · (rw [ht.out]; simp only [Act.put, List.setIfInBounds_toArray, List.set_cons_zero, List.set_cons_succ])
      · go_simp
        have hb := below_fresh u zBox
        have hx18 := heap_alloc_new u zBox
        have hz := World.size_alloc u zBox
        have hg18 : w4.heap.size ≤ u.heap.size := ha.size
        replace hx17 := Lib.hid (below_block hx17.out hb)
        have hn1718 : X17 ≠ u.heap.size := by omega
        replace hl17 : X17 < (u.alloc zBox).heap.size := by omega
        have hl18 : u.heap.size < (u.alloc zBox).heap.size := by omega
        replace ha := bnext ha hb
        refine hK.out _ _ (ha) (fun _ => ?_)
        clear hK K
        (try simp only [Act.put, List.setIfInBounds_toArray, List.set_cons_zero, List.set_cons_succ])
        clear hb hz
        generalize u.alloc zBox = w8 at hx18 hl18 ha hx17 hl17 ⊢
        generalize u.heap.size = X18 at hx18 hl18 hg18 hn1718 ⊢
        replace hx18 := Lib.hid hx18
        refine wpH_cong ho.out hq.out hs.out ?_ ?_ (st0_12.out X17 X18 _ ha hx17 hl17 hg17 hx18 hl18 hg18 hn1718)
        · kernel_rfl
        · (rw [ht.out]; simp only [Act.put, List.setIfInBounds_toArray, List.set_cons_zero, List.set_cons_succ]))
    have st0_2 := Lib.hid (show ∀ (X18 : Nat) (u : World), Below w4.heap.size w4 u → Hid (u.heap[X18]? = some zBox) → X18 < u.heap.size → w4.heap.size ≤ X18 → wpAnyH Tryz.prog .any o q s 8 #[true, true, false, true, true, false, true, true, false, false, false, true, false, false, false] (Act.put t (some 18) (.pointer (some ⟨X18, 0, none⟩))) u from by
      intro X18 u ha hx18 hl18 hg18
      rw [ho.out, hq.out, hs.out, ht.out]
      (try simp only [Act.put, List.setIfInBounds_toArray, List.set_cons_zero, List.set_cons_succ])
      refine wpAnyH_ready (rs := [2, 9, 10]) (by kernel_rfl) (by simp) ?_
      refine stepH rfl (fun K hK => ?_) (stepH rfl (fun K hK => ?_) (stepH rfl (fun K hK => ?_) AllReadyH.nil))
      · go_simp
        refine (HS1.out u ha).mono ?_
        rintro e w8 ⟨v1, rfl, hrf, hb⟩
        obtain ⟨ax1, lx1, cx1, ay1, ly1, cy1, az1, lz1, cz1, hv⟩ := hrf.rd.shape
        subst hv
        have hR1 := Lib.hid (RsL.of (L := [X18]) hrf (by intro k hk; simp at hk; omega))
        replace hx18 := Lib.hid (below_block hx18.out hb)
        replace hl18 := Nat.lt_of_lt_of_le hl18 hb.size
        replace ha := bnext ha hb
        clear hb hrf
        go_wp2_with fail
        refine hK.out _ _ (ha) (fun _ => ?_)
        clear hK K
        (try simp only [Act.put, List.setIfInBounds_toArray, List.set_cons_zero, List.set_cons_succ])
        refine wpH_cong ho.out hq.out hs.out ?_ ?_ (st1_2.out X18 _ _ _ _ _ _ _ _ _ _ ha hx18 hl18 hg18 hR1)
        · kernel_rfl
        · (rw [ht.out]; simp only [Act.put, List.setIfInBounds_toArray, List.set_cons_zero, List.set_cons_succ])
      · go_simp
        have hb := below_fresh u zBox
        have hx16 := heap_alloc_new u zBox
        have hz := World.size_alloc u zBox
        have hg16 : w4.heap.size ≤ u.heap.size := ha.size
        replace hx18 := Lib.hid (below_block hx18.out hb)
        have hn1618 : u.heap.size ≠ X18 := by omega
        replace hl18 : X18 < (u.alloc zBox).heap.size := by omega
        have hl16 : u.heap.size < (u.alloc zBox).heap.size := by omega
        replace ha := bnext ha hb
        refine hK.out _ _ (ha) (fun _ => ?_)
        clear hK K
        (try simp only [Act.put, List.setIfInBounds_toArray, List.set_cons_zero, List.set_cons_succ])
        clear hb hz
        generalize u.alloc zBox = w8 at hx16 hl16 ha hx18 hl18 ⊢
        generalize u.heap.size = X16 at hx16 hl16 hg16 hn1618 ⊢
        replace hx16 := Lib.hid hx16
        refine wpH_cong ho.out hq.out hs.out ?_ ?_ (st0_02.out X16 X18 _ ha hx16 hl16 hg16 hx18 hl18 hg18 hn1618)
        · kernel_rfl
        · (rw [ht.out]; simp only [Act.put, List.setIfInBounds_toArray, List.set_cons_zero, List.set_cons_succ])
      · go_simp
        have hb := below_fresh u zBox
        have hx17 := heap_alloc_new u zBox
        have hz := World.size_alloc u zBox
        have hg17 : w4.heap.size ≤ u.heap.size := ha.size
        replace hx18 := Lib.hid (below_block hx18.out hb)
        have hn1718 : u.heap.size ≠ X18 := by omega
        replace hl18 : X18 < (u.alloc zBox).heap.size := by omega
        have hl17 : u.heap.size < (u.alloc zBox).heap.size := by omega
        replace ha := bnext ha hb
        refine hK.out _ _ (ha) (fun _ => ?_)
        clear hK K
        (try simp only [Act.put, List.setIfInBounds_toArray, List.set_cons_zero, List.set_cons_succ])
        clear hb hz
        generalize u.alloc zBox = w8 at hx17 hl17 ha hx18 hl18 ⊢
        generalize u.heap.size = X17 at hx17 hl17 hg17 hn1718 ⊢
        replace hx17 := Lib.hid hx17
        refine wpH_cong ho.out hq.out hs.out ?_ ?_ (st0_12.out X17 X18 _ ha hx17 hl17 hg17 hx18 hl18 hg18 hn1718)
        · kernel_rfl
        · (rw [ht.out]; simp only [Act.put, List.setIfInBounds_toArray, List.set_cons_zero, List.set_cons_succ]))
    have st0_ := Lib.hid (show ∀ (u : World), Below w4.heap.size w4 u → wpAnyH Tryz.prog .any o q s 9 #[true, true, false, true, true, false, true, true, false, false, false, false, false, false, false] t u from by
      intro u ha
      rw [ho.out, hq.out, hs.out, ht.out]
      (try simp only [Act.put, List.setIfInBounds_toArray, List.set_cons_zero, List.set_cons_succ])
      refine wpAnyH_ready (rs := [2, 9, 10, 11]) (by kernel_rfl) (by simp) ?_
      refine stepH rfl (fun K hK => ?_) (stepH rfl (fun K hK => ?_) (stepH rfl (fun K hK => ?_) (stepH rfl (fun K hK => ?_) AllReadyH.nil)))
      · go_simp
        refine (HS1.out u ha).mono ?_
        rintro e w8 ⟨v1, rfl, hrf, hb⟩
        obtain ⟨ax1, lx1, cx1, ay1, ly1, cy1, az1, lz1, cz1, hv⟩ := hrf.rd.shape
        subst hv
        have hR1 := Lib.hid (RsL.of (L := []) hrf (by intro k hk; simp at hk))
        replace ha := bnext ha hb
        clear hb hrf
        go_wp2_with fail
        refine hK.out _ _ (ha) (fun _ => ?_)
        clear hK K
        (try simp only [Act.put, List.setIfInBounds_toArray, List.set_cons_zero, List.set_cons_succ])
        refine wpH_cong ho.out hq.out hs.out ?_ ?_ (st1_.out _ _ _ _ _ _ _ _ _ _ ha hR1)
        · kernel_rfl
        · (rw [ht.out]; simp only [Act.put, List.setIfInBounds_toArray, List.set_cons_zero, List.set_cons_succ])
      · go_simp
        have hb := below_fresh u zBox
        have hx16 := heap_alloc_new u zBox
        have hz := World.size_alloc u zBox
        have hg16 : w4.heap.size ≤ u.heap.size := ha.size
        have hl16 : u.heap.size < (u.alloc zBox).heap.size := by omega
        replace ha := bnext ha hb
        refine hK.out _ _ (ha) (fun _ => ?_)
        clear hK K
        (try simp only [Act.put, List.setIfInBounds_toArray, List.set_cons_zero, List.set_cons_succ])
        clear hb hz
        generalize u.alloc zBox = w8 at hx16 hl16 ha ⊢
        generalize u.heap.size = X16 at hx16 hl16 hg16 ⊢
        replace hx16 := Lib.hid hx16
        refine wpH_cong ho.out hq.out hs.out ?_ ?_ (st0_0.out X16 _ ha hx16 hl16 hg16)
        · kernel_rfl
        · (rw [ht.out]; simp only [Act.put, List.setIfInBounds_toArray, List.set_cons_zero, List.set_cons_succ])
      · go_simp
        have hb := below_fresh u zBox
        have hx17 := heap_alloc_new u zBox
        have hz := World.size_alloc u zBox
        have hg17 : w4.heap.size ≤ u.heap.size := ha.size
        have hl17 : u.heap.size < (u.alloc zBox).heap.size := by omega
        replace ha := bnext ha hb
        refine hK.out _ _ (ha) (fun _ => ?_)
        clear hK K
        (try simp only [Act.put, List.setIfInBounds_toArray, List.set_cons_zero, List.set_cons_succ])
        clear hb hz
        generalize u.alloc zBox = w8 at hx17 hl17 ha ⊢
        generalize u.heap.size = X17 at hx17 hl17 hg17 ⊢
        replace hx17 := Lib.hid hx17
        refine wpH_cong ho.out hq.out hs.out ?_ ?_ (st0_1.out X17 _ ha hx17 hl17 hg17)
        · kernel_rfl
        · (rw [ht.out]; simp only [Act.put, List.setIfInBounds_toArray, List.set_cons_zero, List.set_cons_succ])
      · go_simp
        have hb := below_fresh u zBox
        have hx18 := heap_alloc_new u zBox
        have hz := World.size_alloc u zBox
        have hg18 : w4.heap.size ≤ u.heap.size := ha.size
        have hl18 : u.heap.size < (u.alloc zBox).heap.size := by omega
        replace ha := bnext ha hb
        refine hK.out _ _ (ha) (fun _ => ?_)
        clear hK K
        (try simp only [Act.put, List.setIfInBounds_toArray, List.set_cons_zero, List.set_cons_succ])
        clear hb hz
        generalize u.alloc zBox = w8 at hx18 hl18 ha ⊢
        generalize u.heap.size = X18 at hx18 hl18 hg18 ⊢
        replace hx18 := Lib.hid hx18
        refine wpH_cong ho.out hq.out hs.out ?_ ?_ (st0_2.out X18 _ ha hx18 hl18 hg18)
        · kernel_rfl
        · (rw [ht.out]; simp only [Act.put, List.setIfInBounds_toArray, List.set_cons_zero, List.set_cons_succ]))
    refine wpH_cong rfl rfl rfl ?_ rfl (st0_.out u0 ha)
    kernel_rfl
  case rest =>
    obtain ⟨X16, X17, X18, x1, y1, z1, x2, y2, z2, x3, y3, z3, rfl, rfl, rfl, hbx, h16, h17, h18, hr1, hr2, hr3⟩ := hcut

    clear HS1 HS2 HS3
    go_wp2
    refine wp_region_held_drew (S := fun w' => Below wc.heap.size wc w') (by kernel_rfl) ((Below.refl _ _).drew) (fun ha => ?_)
    replace ha : Below wc.heap.size wc wc.drew := (Below.refl _ _).drew
    generalize wc.drew = wa at ha ⊢
    refine takeH (i := 0) (v := ?_) rfl (by kernel_rfl) (by kernel_rfl) (by kernel_rfl) (fun _ _ _ h => h) (Or.inl ⟨by rfl, ?_⟩) (by assumption) ?_
    rotate_left
    · (intro w hSw; (try dsimp only at hSw); obtain ⟨⟨s0, s1, s2, s3, s4, s5, s6, s7, s8⟩, _⟩ := row9_at (below_block h16.out hSw); go_simp; first | done | with_reducible rfl)
    (try simp only [Act.put, List.setIfInBounds_toArray, List.set_cons_zero, List.set_cons_succ])
    refine takeH (i := 1) (v := ?_) rfl (by kernel_rfl) (by kernel_rfl) (by kernel_rfl) (fun _ _ _ h => h) (Or.inl ⟨by rfl, ?_⟩) (by assumption) ?_
    rotate_left
    · (intro w hSw; (try dsimp only at hSw); obtain ⟨⟨s0, s1, s2, s3, s4, s5, s6, s7, s8⟩, _⟩ := row9_at (below_block h17.out hSw); go_simp; first | done | with_reducible rfl)
    (try simp only [Act.put, List.setIfInBounds_toArray, List.set_cons_zero, List.set_cons_succ])
    refine takeH (i := 3) (v := ?_) rfl (by kernel_rfl) (by kernel_rfl) (by kernel_rfl) (fun _ _ _ h => h) (Or.inl ⟨by rfl, ?_⟩) (by assumption) ?_
    rotate_left
    · (intro w hSw; (try dsimp only at hSw); obtain ⟨⟨q0, q1, q2, q3⟩, _⟩ := row4_at (below_block HX.out (bnext hbx.out hSw)); go_simp; first | done | with_reducible rfl)
    (try simp only [Act.put, List.setIfInBounds_toArray, List.set_cons_zero, List.set_cons_succ])
    refine takeH (i := 4) (v := ?_) rfl (by kernel_rfl) (by kernel_rfl) (by kernel_rfl) (fun _ _ _ h => h) (Or.inl ⟨by rfl, ?_⟩) (by assumption) ?_
    rotate_left
    · (intro w hSw; (try dsimp only at hSw); go_simp; first | done | with_reducible rfl)
    (try simp only [Act.put, List.setIfInBounds_toArray, List.set_cons_zero, List.set_cons_succ])
    refine takeH (i := 5) (v := ?_) rfl (by kernel_rfl) (by kernel_rfl) (by kernel_rfl) (fun _ _ _ h => h) (Or.inl ⟨by rfl, ?_⟩) (by assumption) ?_
    rotate_left
    · (intro w hSw; (try dsimp only at hSw); go_simp; first | done | with_reducible rfl)
    (try simp only [Act.put, List.setIfInBounds_toArray, List.set_cons_zero, List.set_cons_succ])
    refine wpAnyH_ready (rs := [2]) (by kernel_rfl) (by simp) ?_
    refine stepH rfl (fun K hK => ?_) AllReadyH.nil
    go_simp
    refine (HJ.out wa S1 S2 HL1.out HL2.out _ _ (hr1.out.below ha) (hr2.out.below ha)).mono ?_
    rintro e wb ⟨v12, rfl, hv12, hq⟩
    have hv12 := hv12.rd
    have hb := bnext ha hq
    go_wp2_with fail
    refine hK.out _ _ (hb) (fun _ => ?_)
    clear hK K
    (try simp only [Act.put, List.setIfInBounds_toArray, List.set_cons_zero, List.set_cons_succ])
    refine wpAnyH_ready (rs := [6]) (by kernel_rfl) (by simp) ?_
    refine stepH rfl (fun K hK => ?_) AllReadyH.nil
    go_simp
    refine (HU.out wb (bnext hbx.out hb)).mono ?_
    rintro e wc ⟨vU, rfl, hvU, hq⟩
    replace hv12 := hv12.below hq
    have hc := bnext hb hq
    go_wp2_with fail
    refine hK.out _ _ (hc) (fun _ => ?_)
    clear hK K
    (try simp only [Act.put, List.setIfInBounds_toArray, List.set_cons_zero, List.set_cons_succ])
    refine wpAnyH_ready (rs := [7]) (by kernel_rfl) (by simp) ?_
    refine stepH rfl (fun K hK => ?_) AllReadyH.nil
    go_simp
    refine (HSU.out wc vU (bnext hbx.out hc) hvU).mono ?_
    rintro e wd ⟨vS, rfl, hvS, hq⟩
    have hvS := hvS.rd
    replace hv12 := hv12.below hq
    have hd := bnext hc hq
    go_wp2_with fail
    refine hK.out _ _ (hd) (fun _ => ?_)
    clear hK K
    (try simp only [Act.put, List.setIfInBounds_toArray, List.set_cons_zero, List.set_cons_succ])
    refine wpAnyH_ready (rs := [8]) (by kernel_rfl) (by simp) ?_
    refine stepH rfl (fun K hK => ?_) AllReadyH.nil
    go_simp
    refine (HEQ.out wd _ _ HE1.out v12 vS hv12 hvS).mono ?_
    rintro e we ⟨rfl, hq⟩
    have he := bnext hd hq
    go_wp2_with fail
    refine hK.out _ _ (he) (fun _ => ?_)
    clear hK K
    (try simp only [Act.put, List.setIfInBounds_toArray, List.set_cons_zero, List.set_cons_succ])
    refine takeH (i := 9) (v := ?_) rfl (by kernel_rfl) (by kernel_rfl) (by kernel_rfl) (fun _ _ _ h => h) (Or.inl ⟨by rfl, ?_⟩) (by assumption) ?_
    rotate_left
    · (intro w hSw; (try dsimp only at hSw); go_simp; first | done | with_reducible rfl)
    (try simp only [Act.put, List.setIfInBounds_toArray, List.set_cons_zero, List.set_cons_succ])
    refine takeH (i := 10) (v := ?_) rfl (by kernel_rfl) (by kernel_rfl) (by kernel_rfl) (fun _ _ _ h => h) (Or.inl ⟨by rfl, ?_⟩) (by assumption) ?_
    rotate_left
    · (intro w hSw; (try dsimp only at hSw); go_simp; first | done | with_reducible rfl)
    (try simp only [Act.put, List.setIfInBounds_toArray, List.set_cons_zero, List.set_cons_succ])
    refine takeH (i := 11) (v := ?_) rfl (by kernel_rfl) (by kernel_rfl) (by kernel_rfl) (fun _ _ _ h => h) (Or.inl ⟨by rfl, ?_⟩) (by assumption) ?_
    rotate_left
    · (intro w hSw; (try dsimp only at hSw); obtain ⟨⟨s0, s1, s2, s3, s4, s5, s6, s7, s8⟩, _⟩ := row9_at (below_block h16.out hSw); go_simp; first | done | with_reducible rfl)
    (try simp only [Act.put, List.setIfInBounds_toArray, List.set_cons_zero, List.set_cons_succ])
    refine takeH (i := 12) (v := ?_) rfl (by kernel_rfl) (by kernel_rfl) (by kernel_rfl) (fun _ _ _ h => h) (Or.inl ⟨by rfl, ?_⟩) (by assumption) ?_
    rotate_left
    · (intro w hSw; (try dsimp only at hSw); obtain ⟨⟨s0, s1, s2, s3, s4, s5, s6, s7, s8⟩, _⟩ := row9_at (below_block h17.out hSw); go_simp; first | done | with_reducible rfl)
    (try simp only [Act.put, List.setIfInBounds_toArray, List.set_cons_zero, List.set_cons_succ])
    refine takeH (i := 14) (v := ?_) rfl (by kernel_rfl) (by kernel_rfl) (by kernel_rfl) (fun _ _ _ h => h) (Or.inl ⟨by rfl, ?_⟩) (by assumption) ?_
    rotate_left
    · (intro w hSw; (try dsimp only at hSw); obtain ⟨⟨s0, s1, s2, s3, s4, s5, s6, s7, s8⟩, _⟩ := row9_at (below_block h17.out hSw); go_simp; first | done | with_reducible rfl)
    (try simp only [Act.put, List.setIfInBounds_toArray, List.set_cons_zero, List.set_cons_succ])
    refine takeH (i := 15) (v := ?_) rfl (by kernel_rfl) (by kernel_rfl) (by kernel_rfl) (fun _ _ _ h => h) (Or.inl ⟨by rfl, ?_⟩) (by assumption) ?_
    rotate_left
    · (intro w hSw; (try dsimp only at hSw); obtain ⟨⟨s0, s1, s2, s3, s4, s5, s6, s7, s8⟩, _⟩ := row9_at (below_block h16.out hSw); go_simp; first | done | with_reducible rfl)
    (try simp only [Act.put, List.setIfInBounds_toArray, List.set_cons_zero, List.set_cons_succ])
    refine wpAnyH_ready (rs := [13]) (by kernel_rfl) (by simp) ?_
    refine stepH rfl (fun K hK => ?_) AllReadyH.nil
    go_simp
    refine (HJ.out we S1 S2 HL1.out HL2.out _ _ (hr1.out.below he) (hr2.out.below he)).mono ?_
    rintro e wf ⟨va2, rfl, hva2, hq⟩
    have hva2 := hva2.rd
    have hf := bnext he hq
    go_wp2_with fail
    refine hK.out _ _ (hf) (fun _ => ?_)
    clear hK K
    (try simp only [Act.put, List.setIfInBounds_toArray, List.set_cons_zero, List.set_cons_succ])
    refine wpAnyH_ready (rs := [16]) (by kernel_rfl) (by simp) ?_
    refine stepH rfl (fun K hK => ?_) AllReadyH.nil
    go_simp
    refine (HJ.out wf S2 S1 HL2.out HL1.out _ _ (hr2.out.below hf) (hr1.out.below hf)).mono ?_
    rintro e wg ⟨va3, rfl, hva3, hq⟩
    have hva3 := hva3.rd
    replace hva2 := hva2.below hq
    have hg := bnext hf hq
    go_wp2_with fail
    refine hK.out _ _ (hg) (fun _ => ?_)
    clear hK K
    (try simp only [Act.put, List.setIfInBounds_toArray, List.set_cons_zero, List.set_cons_succ])
    refine wpAnyH_ready (rs := [17]) (by kernel_rfl) (by simp) ?_
    refine stepH rfl (fun K hK => ?_) AllReadyH.nil
    go_simp
    refine (HEQ.out wg _ _ HE2.out va2 va3 hva2 hva3).mono ?_
    rintro e wh ⟨rfl, hq⟩
    have hh := bnext hg hq
    go_wp2_with fail
    refine hK.out _ _ (hh) (fun _ => ?_)
    clear hK K
    (try simp only [Act.put, List.setIfInBounds_toArray, List.set_cons_zero, List.set_cons_succ])
    refine takeH (i := 18) (v := ?_) rfl (by kernel_rfl) (by kernel_rfl) (by kernel_rfl) (fun _ _ _ h => h) (Or.inl ⟨by rfl, ?_⟩) (by assumption) ?_
    rotate_left
    · (intro w hSw; (try dsimp only at hSw); go_simp; first | done | with_reducible rfl)
    (try simp only [Act.put, List.setIfInBounds_toArray, List.set_cons_zero, List.set_cons_succ])
    refine takeH (i := 19) (v := ?_) rfl (by kernel_rfl) (by kernel_rfl) (by kernel_rfl) (fun _ _ _ h => h) (Or.inl ⟨by rfl, ?_⟩) (by assumption) ?_
    rotate_left
    · (intro w hSw; (try dsimp only at hSw); go_simp; first | done | with_reducible rfl)
    (try simp only [Act.put, List.setIfInBounds_toArray, List.set_cons_zero, List.set_cons_succ])
    refine takeH (i := 20) (v := ?_) rfl (by kernel_rfl) (by kernel_rfl) (by kernel_rfl) (fun _ _ _ h => h) (Or.inl ⟨by rfl, ?_⟩) (by assumption) ?_
    rotate_left
    · (intro w hSw; (try dsimp only at hSw); go_simp; first | done | with_reducible rfl)
    (try simp only [Act.put, List.setIfInBounds_toArray, List.set_cons_zero, List.set_cons_succ])
    refine takeH (i := 21) (v := ?_) rfl (by kernel_rfl) (by kernel_rfl) (by kernel_rfl) (fun _ _ _ h => h) (Or.inl ⟨by rfl, ?_⟩) (by assumption) ?_
    rotate_left
    · (intro w hSw; (try dsimp only at hSw); obtain ⟨⟨s0, s1, s2, s3, s4, s5, s6, s7, s8⟩, _⟩ := row9_at (below_block h16.out hSw); go_simp; first | done | with_reducible rfl)
    (try simp only [Act.put, List.setIfInBounds_toArray, List.set_cons_zero, List.set_cons_succ])
    refine takeH (i := 22) (v := ?_) rfl (by kernel_rfl) (by kernel_rfl) (by kernel_rfl) (fun _ _ _ h => h) (Or.inl ⟨by rfl, ?_⟩) (by assumption) ?_
    rotate_left
    · (intro w hSw; (try dsimp only at hSw); obtain ⟨⟨s0, s1, s2, s3, s4, s5, s6, s7, s8⟩, _⟩ := row9_at (below_block h16.out hSw); go_simp; first | done | with_reducible rfl)
    (try simp only [Act.put, List.setIfInBounds_toArray, List.set_cons_zero, List.set_cons_succ])
    refine takeH (i := 24) (v := ?_) rfl (by kernel_rfl) (by kernel_rfl) (by kernel_rfl) (fun _ _ _ h => h) (Or.inl ⟨by rfl, ?_⟩) (by assumption) ?_
    rotate_left
    · (intro w hSw; (try dsimp only at hSw); obtain ⟨⟨s0, s1, s2, s3, s4, s5, s6, s7, s8⟩, _⟩ := row9_at (below_block h16.out hSw); go_simp; first | done | with_reducible rfl)
    (try simp only [Act.put, List.setIfInBounds_toArray, List.set_cons_zero, List.set_cons_succ])
    refine wpAnyH_ready (rs := [23]) (by kernel_rfl) (by simp) ?_
    refine stepH rfl (fun K hK => ?_) AllReadyH.nil
    go_simp
    refine (HJ.out wh S1 S1 HL1.out HL1.out _ _ (hr1.out.below hh) (hr1.out.below hh)).mono ?_
    rintro e wi ⟨va4, rfl, hva4, hq⟩
    have hva4 := hva4.rd
    have hi := bnext hh hq
    go_wp2_with fail
    refine hK.out _ _ (hi) (fun _ => ?_)
    clear hK K
    (try simp only [Act.put, List.setIfInBounds_toArray, List.set_cons_zero, List.set_cons_succ])
    refine wpAnyH_ready (rs := [25]) (by kernel_rfl) (by simp) ?_
    refine stepH rfl (fun K hK => ?_) AllReadyH.nil
    go_simp
    refine (HEQ.out wi _ _ HE3.out va4 _ hva4 (hr1.out.below hi)).mono ?_
    rintro e wj ⟨rfl, hq⟩
    have hj := bnext hi hq
    go_wp2_with fail
    refine hK.out _ _ (hj) (fun _ => ?_)
    clear hK K
    (try simp only [Act.put, List.setIfInBounds_toArray, List.set_cons_zero, List.set_cons_succ])
    refine takeH (i := 26) (v := ?_) rfl (by kernel_rfl) (by kernel_rfl) (by kernel_rfl) (fun _ _ _ h => h) (Or.inl ⟨by rfl, ?_⟩) (by assumption) ?_
    rotate_left
    · (intro w hSw; (try dsimp only at hSw); go_simp; first | done | with_reducible rfl)
    (try simp only [Act.put, List.setIfInBounds_toArray, List.set_cons_zero, List.set_cons_succ])
    refine takeH (i := 27) (v := ?_) rfl (by kernel_rfl) (by kernel_rfl) (by kernel_rfl) (fun _ _ _ h => h) (Or.inl ⟨by rfl, ?_⟩) (by assumption) ?_
    rotate_left
    · (intro w hSw; (try dsimp only at hSw); go_simp; first | done | with_reducible rfl)
    (try simp only [Act.put, List.setIfInBounds_toArray, List.set_cons_zero, List.set_cons_succ])
    refine wpAnyH_done (by kernel_rfl) ?_ _
    clear hv12 hvS hvU hva2 hva3 hva4
    replace hr1 := Lib.hid (hr1.out.below hj)
    replace hr2 := Lib.hid (hr2.out.below hj)
    replace hr3 := Lib.hid (hr3.out.below hj)
    replace h16 := Lib.hid (below_block h16.out hj)
    replace h17 := Lib.hid (below_block h17.out hj)
    replace h18 := Lib.hid (below_block h18.out hj)
    replace hbx := Lib.hid (bnext hbx.out hj)
    clear ha hb hc hd he hf hg hh hi hj
    go_wp2
    refine wp_region_held_drew (S := fun w' => Below wj.heap.size wj w') (by kernel_rfl) ((Below.refl _ _).drew) (fun ha => ?_)
    replace ha : Below wj.heap.size wj wj.drew := (Below.refl _ _).drew
    generalize wj.drew = wa at ha ⊢
    refine takeH (i := 0) (v := ?_) rfl (by kernel_rfl) (by kernel_rfl) (by kernel_rfl) (fun _ _ _ h => h) (Or.inl ⟨by rfl, ?_⟩) (by assumption) ?_
    rotate_left
    · (intro w hSw; (try dsimp only at hSw); obtain ⟨⟨s0, s1, s2, s3, s4, s5, s6, s7, s8⟩, _⟩ := row9_at (below_block h16.out hSw); go_simp; first | done | with_reducible rfl)
    (try simp only [Act.put, List.setIfInBounds_toArray, List.set_cons_zero, List.set_cons_succ])
    refine takeH (i := 1) (v := ?_) rfl (by kernel_rfl) (by kernel_rfl) (by kernel_rfl) (fun _ _ _ h => h) (Or.inl ⟨by rfl, ?_⟩) (by assumption) ?_
    rotate_left
    · (intro w hSw; (try dsimp only at hSw); obtain ⟨⟨s0, s1, s2, s3, s4, s5, s6, s7, s8⟩, _⟩ := row9_at (below_block h17.out hSw); go_simp; first | done | with_reducible rfl)
    (try simp only [Act.put, List.setIfInBounds_toArray, List.set_cons_zero, List.set_cons_succ])
    refine takeH (i := 3) (v := ?_) rfl (by kernel_rfl) (by kernel_rfl) (by kernel_rfl) (fun _ _ _ h => h) (Or.inl ⟨by rfl, ?_⟩) (by assumption) ?_
    rotate_left
    · (intro w hSw; (try dsimp only at hSw); obtain ⟨⟨s0, s1, s2, s3, s4, s5, s6, s7, s8⟩, _⟩ := row9_at (below_block h18.out hSw); go_simp; first | done | with_reducible rfl)
    (try simp only [Act.put, List.setIfInBounds_toArray, List.set_cons_zero, List.set_cons_succ])
    refine takeH (i := 5) (v := ?_) rfl (by kernel_rfl) (by kernel_rfl) (by kernel_rfl) (fun _ _ _ h => h) (Or.inl ⟨by rfl, ?_⟩) (by assumption) ?_
    rotate_left
    · (intro w hSw; (try dsimp only at hSw); obtain ⟨⟨s0, s1, s2, s3, s4, s5, s6, s7, s8⟩, _⟩ := row9_at (below_block h16.out hSw); go_simp; first | done | with_reducible rfl)
    (try simp only [Act.put, List.setIfInBounds_toArray, List.set_cons_zero, List.set_cons_succ])
    refine takeH (i := 6) (v := ?_) rfl (by kernel_rfl) (by kernel_rfl) (by kernel_rfl) (fun _ _ _ h => h) (Or.inl ⟨by rfl, ?_⟩) (by assumption) ?_
    rotate_left
    · (intro w hSw; (try dsimp only at hSw); obtain ⟨⟨s0, s1, s2, s3, s4, s5, s6, s7, s8⟩, _⟩ := row9_at (below_block h17.out hSw); go_simp; first | done | with_reducible rfl)
    (try simp only [Act.put, List.setIfInBounds_toArray, List.set_cons_zero, List.set_cons_succ])
    refine takeH (i := 7) (v := ?_) rfl (by kernel_rfl) (by kernel_rfl) (by kernel_rfl) (fun _ _ _ h => h) (Or.inl ⟨by rfl, ?_⟩) (by assumption) ?_
    rotate_left
    · (intro w hSw; (try dsimp only at hSw); obtain ⟨⟨s0, s1, s2, s3, s4, s5, s6, s7, s8⟩, _⟩ := row9_at (below_block h18.out hSw); go_simp; first | done | with_reducible rfl)
    (try simp only [Act.put, List.setIfInBounds_toArray, List.set_cons_zero, List.set_cons_succ])
    refine wpAnyH_ready (rs := [2]) (by kernel_rfl) (by simp) ?_
    refine stepH rfl (fun K hK => ?_) AllReadyH.nil
    go_simp
    refine (HJ.out wa S1 S2 HL1.out HL2.out _ _ (hr1.out.below ha) (hr2.out.below ha)).mono ?_
    rintro e wb ⟨v12, rfl, hv12, hq⟩
    have hv12 := hv12.rd
    have hb := bnext ha hq
    go_wp2_with fail
    refine hK.out _ _ (hb) (fun _ => ?_)
    clear hK K
    (try simp only [Act.put, List.setIfInBounds_toArray, List.set_cons_zero, List.set_cons_succ])
    refine wpAnyH_ready (rs := [4]) (by kernel_rfl) (by simp) ?_
    refine stepH rfl (fun K hK => ?_) AllReadyH.nil
    go_simp
    refine (HJ.out wb _ S3 HL12.out HL3.out v12 _ hv12 (hr3.out.below hb)).mono ?_
    rintro e wc ⟨v123, rfl, hv123, hq⟩
    have hv123 := hv123.rd
    have hc := bnext hb hq
    go_wp2_with fail
    refine hK.out _ _ (hc) (fun _ => ?_)
    clear hK K
    (try simp only [Act.put, List.setIfInBounds_toArray, List.set_cons_zero, List.set_cons_succ])
    refine wpAnyH_ready (rs := [8]) (by kernel_rfl) (by simp) ?_
    refine stepH rfl (fun K hK => ?_) AllReadyH.nil
    go_simp
    refine (HJ.out wc S2 S3 HL2.out HL3.out _ _ (hr2.out.below hc) (hr3.out.below hc)).mono ?_
    rintro e wd ⟨v23, rfl, hv23, hq⟩
    have hv23 := hv23.rd
    replace hv123 := hv123.below hq
    have hd := bnext hc hq
    go_wp2_with fail
    refine hK.out _ _ (hd) (fun _ => ?_)
    clear hK K
    (try simp only [Act.put, List.setIfInBounds_toArray, List.set_cons_zero, List.set_cons_succ])
    refine wpAnyH_ready (rs := [9]) (by kernel_rfl) (by simp) ?_
    refine stepH rfl (fun K hK => ?_) AllReadyH.nil
    go_simp
    refine (HJ.out wd S1 _ HL1.out HL23.out _ v23 (hr1.out.below hd) hv23).mono ?_
    rintro e we ⟨vL, rfl, hvL, hq⟩
    have hvL := hvL.rd
    replace hv123 := hv123.below hq
    have he := bnext hd hq
    go_wp2_with fail
    refine hK.out _ _ (he) (fun _ => ?_)
    clear hK K
    (try simp only [Act.put, List.setIfInBounds_toArray, List.set_cons_zero, List.set_cons_succ])
    refine wpAnyH_ready (rs := [10]) (by kernel_rfl) (by simp) ?_
    refine stepH rfl (fun K hK => ?_) AllReadyH.nil
    go_simp
    refine (HEQ.out we _ _ HE4.out v123 vL hv123 hvL).mono ?_
    rintro e wf ⟨rfl, hq⟩
    have hf := bnext he hq
    go_wp2_with fail
    refine hK.out _ _ (hf) (fun _ => ?_)
    clear hK K
    (try simp only [Act.put, List.setIfInBounds_toArray, List.set_cons_zero, List.set_cons_succ])
    refine takeH (i := 11) (v := ?_) rfl (by kernel_rfl) (by kernel_rfl) (by kernel_rfl) (fun _ _ _ h => h) (Or.inl ⟨by rfl, ?_⟩) (by assumption) ?_
    rotate_left
    · (intro w hSw; (try dsimp only at hSw); go_simp; first | done | with_reducible rfl)
    (try simp only [Act.put, List.setIfInBounds_toArray, List.set_cons_zero, List.set_cons_succ])
    refine wpAnyH_ready (rs := [12]) (by kernel_rfl) (by simp) ?_
    refine stepH rfl (fun K hK => ?_) AllReadyH.nil
    go_simp
    refine (HAW.out wf).mono ?_
    rintro e wg ⟨rfl, hq⟩
    have hg := bnext hf hq
    go_wp2_with fail
    refine hK.out _ _ (hg) (fun _ => ?_)
    clear hK K
    (try simp only [Act.put, List.setIfInBounds_toArray, List.set_cons_zero, List.set_cons_succ])
    refine takeH (i := 13) (v := ?_) rfl (by kernel_rfl) (by kernel_rfl) (by kernel_rfl) (fun _ _ _ h => h) (Or.inl ⟨by rfl, ?_⟩) (by assumption) ?_
    rotate_left
    · (intro w hSw; (try dsimp only at hSw); go_simp; first | done | with_reducible rfl)
    (try simp only [Act.put, List.setIfInBounds_toArray, List.set_cons_zero, List.set_cons_succ])
    refine takeH (i := 14) (v := ?_) rfl (by kernel_rfl) (by kernel_rfl) (by kernel_rfl) (fun _ _ _ h => h) (Or.inl ⟨by rfl, ?_⟩) (by assumption) ?_
    rotate_left
    · (intro w hSw; (try dsimp only at hSw); go_simp; first | done | with_reducible rfl)
    (try simp only [Act.put, List.setIfInBounds_toArray, List.set_cons_zero, List.set_cons_succ])
    refine wpAnyH_done (by kernel_rfl) ?_ _
    have HFI := Lib.hid (bnext (bnext HB.out hbx.out) hg)
    clear ha hb hc hd he hf hg hv12 hv123 hv23 hvL
    go_wp2
    go_ret
    exact ⟨rfl, HFI.out⟩

end Go.Proofs.YtdipheijagjelaaGreat
