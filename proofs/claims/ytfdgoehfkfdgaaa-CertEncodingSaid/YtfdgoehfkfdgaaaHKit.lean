/-
  The calls of the laws' valid over a list of certificates, and of Cert. Conditions: what comes in reads; the pool is valid.
-/
import Derived.Deep.RegionLaw
import Derived.Laws.AppendOwn
import Derived.Test.YtfdgoehfkfdgaaaHVal
namespace Go.Proofs.Ytfdgoehfkfdgaaa
open Go.RowKit
open JM (Chg)
open CM (Fp)

theorem take_snocG {α : Type} {l : List α} {k : Nat} {x : α} (h : l[k]? = some x) : l.take (k + 1) = l.take k ++ [x] := by rw [List.take_add_one, h]; rfl
section
variable {α : Type} {P : Program} {t e : TypeId} {size bytes : Nat} {enc : α → List Value}
variable {w : World} {ops : Array Oper} {o : Oper} {a : Act} {K : Act → World → Prop} {Q : Exit → Act → World → Prop} {F : Prop} {base : Nat} {v : Value} {ys : List α}
/-- 'append(out, u...)' as one step of a region that draws its order, guarded or not. -/
theorem step_appGS (E : IsElem P t e size bytes enc) {u : Value} {zs : List α} (hwant : Region.wanted o (yielded ops a.tmps) = true) (s r : Operand) (ho : o.op = .call { callee := .builtin .append, args := #[s, r], argTypes := #[t, t] })
    (hs : a.eval s = v) (hown : OwnG enc e size base w v ys) (hx : a.eval r = u) (hu : RdG enc size w u zs) (hlen : ys.length ≤ 1073741824) (hlen2 : zs.length ≤ 1073741824) (hb : base ≤ w.heap.size)
    (h : ∀ v' w', OwnG enc e size base w' v' (ys ++ zs) → Below base w w' → w.grownBy w' v.ownBlock → K (a.put o.dst v') w') :
    if Region.wanted o (yielded ops a.tmps) = true then Oper.wp P o a w K Q else F := by
  rw [if_pos hwant]
  obtain ⟨i0, z, hi, hz0, hz1, hz2, hz3⟩ := E.info
  obtain ⟨ad, c, rfl, h1, h2, h3, hl, h4⟩ := hu
  cases ad with
  | none =>
    obtain ⟨rfl, rfl⟩ := h3 rfl
    have hrun := run_append_owned_none (P := P) (w := w) base t o.type e i0 size E.ht hi _ _ _ hown.1
    unfold Oper.wp
    simp [execOp, ho, resolve, invoke, builtin, hs, hx, hrun, Result.andThen]
    exact h _ _ (by rw [List.append_nil]; exact hown) (Below.refl _ _) ⟨rfl, rfl, rfl, Nat.le_refl _, fun _ _ _ => rfl⟩
  | some ad =>
    refine wp_append_own w s r t ho base e i0 z size bytes E.ht hi hz0 hz1 hz2 hz3 E.pos _ _ _ hs hown.1 ad zs.length c (cellsOf enc zs) hx (cellsOf_length E.len zs) (h4 ad rfl) (cellsOf_one E.one zs) ?_ ?_ hb ?_
    · unfold maxLen; omega
    · have := E.fits
      calc (ys.length + zs.length) * bytes ≤ (1073741824 + 1073741824) * 4096 := Nat.mul_le_mul (by omega) this
        _ ≤ 140737488355328 := by decide
    · intro v' w1 ho1 hg1 _
      refine h v' w1 ⟨?_, hown.2⟩ ((Below.refl _ _).grown hg1 hb (fun k hk => (World.ownsRow.lt hown.1 k hk).1)) hg1
      rw [cellsOf_append, List.length_append]
      exact ho1
end
def fl (c : Fc) : List (List Fp) := [c.1, c.2]
theorem fl_len (cs : List Fc) : (cs.flatMap fl).length = 2 * cs.length := by
  induction cs with
  | nil => rfl
  | cons c r ih => rw [List.flatMap_cons, List.length_append, ih, List.length_cons]; simp [fl]; omega

set_option maxRecDepth 100000 in
set_option maxHeartbeats 4000000 in
theorem kValidC (v : Value) (cs : List Fc) (w : World) (h : RdCt w v cs) (hl : cs.length ≤ 1000) :
    Calls Try.prog 12 #[v] w fun e w' => Says e ((∀ c ∈ cs, CM.errC c.1 c.2 = 0) ∧ CM.AllOk (cs.flatMap fl)) ∧ Below w.heap.size w w' := by
  obtain ⟨ad, cp, rfl, hcp, _⟩ := h.shape
  have H := Lib.hid h
  have HL := Lib.hid hl
  clear h hl
  go_enter Try.func12, Try.ntmps12
  go_wp2
  go_loopw [3, 4] (fun u i wr => ∃ k : Nat, k ≤ cs.length ∧ i = .int .i64 k ∧ Hid (OwnLs (fun _ q x => RdF w q x) 23 w.heap.size wr u ((cs.take k).flatMap fl)) ∧ Hid (Below w.heap.size w wr) ∧ Hid (∀ c ∈ cs.take k, CM.errC c.1 c.2 = 0)) (fun _ i _ => cs.length - (intOf i).toNat)
  case atStart => exact ⟨0, Nat.zero_le _, rfl, OwnLs.nil _ _ _, Below.refl _ _, fun c hc => by simp at hc⟩
  case round =>
    obtain ⟨k, hk, rfl, ho, hbl, hes⟩ := hrel
    by_cases hlt : k < cs.length
    · have hq : (k : Int) < (cs.length : Int) := by omega
      have hk2 := List.getElem?_eq_getElem hlt
      generalize cs[k] = c at hk2
      have htk := take_snocG hk2
      obtain ⟨f, t⟩ := c
      obtain ⟨b, o, fa, fc, ta, tc, hi, hbw, c0, c1, rf, rt⟩ := H.out.at_ k f t hk2
      have RF := Lib.hid rf
      have RT := Lib.hid rt
      have hv := rValidateCert _ _ f t wr (rf.below hbl.out) (rt.below hbl.out)
      obtain ⟨E, hE⟩ : ∃ E, E = CM.errC f t := ⟨_, rfl⟩
      rw [← hE] at hv
      have HV := Lib.hid hv
      have HTK := Lib.hid htk
      have d0 := c0
      have d1 := c1
      replace c0 := below_cell hbl.out c0
      replace c1 := below_cell hbl.out c1
      clear hv rf rt hk2 htk
      by_cases hf : 30 < f.length
      · have hqf : (30 : Int) < (f.length : Int) := by omega
        clear HV hE
        go_wp2
        go_ret
        exact ⟨⟨false, rfl, by intro h; cases h⟩, hbl.out⟩
      have hqf : ¬ (30 : Int) < (f.length : Int) := by omega
      by_cases ht : 30 < t.length
      · have hqt : (30 : Int) < (t.length : Int) := by omega
        clear HV hE
        go_wp2
        go_ret
        exact ⟨⟨false, rfl, by intro h; cases h⟩, hbl.out⟩
      have hqt : ¬ (30 : Int) < (t.length : Int) := by omega
      by_cases h0 : E = 0
      case neg =>
        have hne : (E != 0) = true := bne_t h0
        clear h0 hE
        go_wp2_with fail
        refine HV.out.mono ?_
        rintro e w1 ⟨rfl, hb1⟩
        have HB1 := Lib.hid (bnext hbl.out hb1)
        clear c0 c1 hi hbw HV hb1 hbl
        go_wp2
        go_ret
        exact ⟨⟨false, rfl, by intro h; cases h⟩, HB1.out⟩
      subst h0
      go_wp2_with fail
      refine HV.out.mono ?_
      rintro e w1 ⟨rfl, hb1⟩
      have HB1 := Lib.hid (bnext hbl.out hb1)
      obtain ⟨ps, ho1, ho2, ho3⟩ := ho.out
      have hpl : ps.length ≤ 2000 := by
        have h1 := congrArg List.length ho3
        rw [List.length_map, fl_len, List.length_take] at h1
        have := HL.out
        omega
      have HO1 := Lib.hid (ho1.below hb1)
      have HPS := Lib.hid (And.intro ho2 ho3)
      have HEE := Lib.hid hE
      have hsw := HB1.out.size
      clear hb1 ho1 ho2 ho3 ho hbl hE HV c0 c1 hbw
      go_upto_region 7 with fail
      refine wp_region_held_drew (S := fun w' => Below w.heap.size w w') (by kernel_rfl) (HB1.out.drew) (fun ha => ?_)
      replace ha : Below w.heap.size w w1.drew := HB1.out.drew
      replace HO1 := Lib.hid (show OwnG encL 23 1 w.heap.size w1.drew _ ps from HO1.out)
      replace hsw : w.heap.size ≤ w1.drew.heap.size := hsw
      generalize w1.drew = wa at ha HO1 hsw ⊢
      refine takeH (i := 0) (v := ?_) rfl (by kernel_rfl) (by kernel_rfl) (by kernel_rfl) (fun _ _ _ h => h) (Or.inl ⟨by rfl, ?_⟩) (by assumption) ?_
      rotate_left
      · (intro w hSw; (try dsimp only at hSw); go_simp; first | done | with_reducible rfl)
      (try simp only [Act.put, List.setIfInBounds_toArray, List.set_cons_zero, List.set_cons_succ])
      refine takeH (i := 1) (v := ?_) rfl (by kernel_rfl) (by kernel_rfl) (by kernel_rfl) (fun _ _ _ h => h) (Or.inl ⟨by rfl, ?_⟩) (by assumption) ?_
      rotate_left
      · (intro w hSw; (try dsimp only at hSw); go_simp; first | done | with_reducible rfl)
      (try simp only [Act.put, List.setIfInBounds_toArray, List.set_cons_zero, List.set_cons_succ])
      refine takeH (i := 2) (v := ?_) rfl (by kernel_rfl) (by kernel_rfl) (by kernel_rfl) (fun _ _ _ h => h) (Or.inl ⟨by rfl, ?_⟩) (by assumption) ?_
      rotate_left
      · (intro w hSw; (try dsimp only at hSw); go_simp; first | done | with_reducible rfl)
      (try simp only [Act.put, List.setIfInBounds_toArray, List.set_cons_zero, List.set_cons_succ])
      refine takeH (i := 3) (v := ?_) rfl (by kernel_rfl) (by kernel_rfl) (by kernel_rfl) (fun _ _ _ h => h) (Or.inl ⟨by rfl, ?_⟩) (by assumption) ?_
      rotate_left
      · (intro w hSw; (try dsimp only at hSw); go_simp; first | done | with_reducible rfl)
      (try simp only [Act.put, List.setIfInBounds_toArray, List.set_cons_zero, List.set_cons_succ])
      refine takeH (i := 4) (v := ?_) rfl (by kernel_rfl) (by kernel_rfl) (by kernel_rfl) (fun _ _ _ h => h) (Or.inl ⟨by rfl, ?_⟩) (by assumption) ?_
      rotate_left
      · (intro w hSw; (try dsimp only at hSw); go_simp; first | done | with_reducible rfl)
      (try simp only [Act.put, List.setIfInBounds_toArray, List.set_cons_zero, List.set_cons_succ])
      refine takeH (i := 5) (v := ?_) rfl (by kernel_rfl) (by kernel_rfl) (by kernel_rfl) (fun _ _ _ h => h) (Or.inl ⟨by rfl, ?_⟩) (by assumption) ?_
      rotate_left
      · (intro w hSw; (try dsimp only at hSw); have hcx := below_cell hSw d0; go_simp; first | done | with_reducible rfl)
      (try simp only [Act.put, List.setIfInBounds_toArray, List.set_cons_zero, List.set_cons_succ])
      refine takeH (i := 6) (v := ?_) rfl (by kernel_rfl) (by kernel_rfl) (by kernel_rfl) (fun _ _ _ h => h) (Or.inl ⟨by rfl, ?_⟩) (by assumption) ?_
      rotate_left
      · (intro w hSw; (try dsimp only at hSw); go_simp; first | done | with_reducible rfl)
      (try simp only [Act.put, List.setIfInBounds_toArray, List.set_cons_zero, List.set_cons_succ])
      refine takeH (i := 7) (v := ?_) rfl (by kernel_rfl) (by kernel_rfl) (by kernel_rfl) (fun _ _ _ h => h) (Or.inl ⟨by rfl, ?_⟩) (by assumption) ?_
      rotate_left
      · (intro w hSw; (try dsimp only at hSw); go_simp; first | done | with_reducible rfl)
      (try simp only [Act.put, List.setIfInBounds_toArray, List.set_cons_zero, List.set_cons_succ])
      refine takeH (i := 8) (v := ?_) rfl (by kernel_rfl) (by kernel_rfl) (by kernel_rfl) (fun _ _ _ h => h) (Or.inl ⟨by rfl, ?_⟩) (by assumption) ?_
      rotate_left
      · (intro w hSw; (try dsimp only at hSw); go_simp; first | done | with_reducible rfl)
      (try simp only [Act.put, List.setIfInBounds_toArray, List.set_cons_zero, List.set_cons_succ])
      refine takeH (i := 9) (v := ?_) rfl (by kernel_rfl) (by kernel_rfl) (by kernel_rfl) (fun _ _ _ h => h) (Or.inl ⟨by rfl, ?_⟩) (by assumption) ?_
      rotate_left
      · (intro w hSw; (try dsimp only at hSw); go_simp; first | done | with_reducible rfl)
      (try simp only [Act.put, List.setIfInBounds_toArray, List.set_cons_zero, List.set_cons_succ])
      refine takeH (i := 10) (v := ?_) rfl (by kernel_rfl) (by kernel_rfl) (by kernel_rfl) (fun _ _ _ h => h) (Or.inl ⟨by rfl, ?_⟩) (by assumption) ?_
      rotate_left
      · (intro w hSw; (try dsimp only at hSw); have hcx := below_cell hSw d1; go_simp; first | done | with_reducible rfl)
      (try simp only [Act.put, List.setIfInBounds_toArray, List.set_cons_zero, List.set_cons_succ])
      refine wpAnyH_ready (rs := [11]) (by kernel_rfl) (by simp) ?_
      refine stepH rfl (fun K hK => ?_) AllReadyH.nil
      go_simp
      have hb := bnext ha (below_fresh _ (.cells #[.slice fa f.length fc, .slice ta t.length tc] 23))
      have hrp : RdG encL 1 (wa.alloc (.cells #[.slice fa f.length fc, .slice ta t.length tc] 23)) (.slice (some ⟨wa.heap.size, 0, none⟩) 2 2) [((fa, f.length, fc), f), ((ta, t.length, tc), t)] := (ownG_fresh (enc := encL (β := List Fp)) hlL 23 wa [((fa, f.length, fc), f), ((ta, t.length, tc), t)] (by simp [maxLen])).rd
      have hop : OwnG encL 23 1 w.heap.size (wa.alloc (.cells #[.slice fa f.length fc, .slice ta t.length tc] 23)) _ ps := HO1.out.below (below_fresh _ _)
      have hsy : w.heap.size ≤ (wa.alloc (.cells #[.slice fa f.length fc, .slice ta t.length tc] 23)).heap.size := by (rw [World.size_alloc]; omega)
      refine hK.out _ _ (hb) (fun _ => ?_)
      clear hK K
      (try simp only [Act.put, List.setIfInBounds_toArray, List.set_cons_zero, List.set_cons_succ])
      obtain ⟨wb , hwb ⟩ : ∃ wb , (wa).alloc (.cells #[.slice fa f.length fc, .slice ta t.length tc] 23) = wb  := ⟨_, rfl⟩
      rw [hwb ] at hb hrp hop hsy ⊢
      clear hwb 
      refine wpAnyH_ready (rs := [12]) (by kernel_rfl) (by simp) ?_
      refine stepH rfl (fun K hK => ?_) AllReadyH.nil
      refine step_appGS cfgE rfl _ _ rfl rfl hop rfl hrp (Nat.le_trans hpl (by decide)) (by simp) hsy ?_
      intro v3 w3 hp3 hq _
      have hc := hb.trans hq
      go_simp
      refine hK.out _ _ (hc) (fun _ => ?_)
      clear hK K
      (try simp only [Act.put, List.setIfInBounds_toArray, List.set_cons_zero, List.set_cons_succ])
      refine takeH (i := 13) (v := ?_) rfl (by kernel_rfl) (by kernel_rfl) (by kernel_rfl) (fun _ _ _ h => h) (Or.inl ⟨by rfl, ?_⟩) (by assumption) ?_
      rotate_left
      · (intro w hSw; (try dsimp only at hSw); go_simp; first | done | with_reducible rfl)
      (try simp only [Act.put, List.setIfInBounds_toArray, List.set_cons_zero, List.set_cons_succ])
      refine wpAnyH_done (by kernel_rfl) ?_ _
      have hb3 := hc
      have HB4 := Lib.hid hc
      have HO4 := Lib.hid (show OwnLs (fun _ q x => RdF w q x) 23 w.heap.size w3 v3 ((cs.take (k + 1)).flatMap fl) from ⟨_, hp3, (fun p hp => by
          rcases List.mem_append.1 hp with h1 | h1
          · exact HPS.out.1 p h1
          · simp only [List.mem_cons, List.mem_nil_iff, or_false] at h1
            rcases h1 with rfl | rfl
            · exact RF.out
            · exact RT.out), by rw [HTK.out, List.map_append, HPS.out.2, List.flatMap_append]; rfl⟩)
      have HES := Lib.hid (show ∀ c ∈ cs.take (k + 1), CM.errC c.1 c.2 = 0 from fun c hc => by
        rw [HTK.out] at hc
        rcases List.mem_append.1 hc with h1 | h1
        · exact hes.out c h1
        · rw [List.mem_singleton] at h1
          subst h1
          exact HEE.out.symm)
      clear hp3 hb3 hpl ha hb hc hrp hop hsy hsw HO1
      go_wp2
      go_roundw
      case rel => exact ⟨k + 1, by omega, by go_num, HO4, HB4, HES⟩
      case measure => simp [intOf]; omega
    · have hq : ¬ ((k : Int) < (cs.length : Int)) := by omega
      obtain rfl : k = cs.length := by omega
      rw [List.take_length] at ho hes
      have HV := Lib.hid (kValidL _ (cs.flatMap fl) wr (ho.out.rd.imp (fun q x hr => hr.below hbl.out)))
      clear ho
      go_wp2_with fail
      refine HV.out.mono ?_
      rintro e w2 ⟨⟨R, rfl, hR⟩, hb2⟩
      have HRR := Lib.hid hR
      have HB2 := Lib.hid (bnext hbl.out hb2)
      clear hR hb2 hbl HV
      go_wp2
      go_ret
      exact ⟨⟨R, rfl, fun h => ⟨hes.out, HRR.out h⟩⟩, HB2.out⟩

set_option maxRecDepth 100000 in
set_option maxHeartbeats 4000000 in
theorem kCert (v : Value) (p : List Fp) (n : Int) (w : World) (h : RdF w v p) (hok : CM.Ok p) :
    Calls Try.prog 23 #[v, .int .i64 n] w fun e w' => ∃ a b g k, e = .returned (cev a b) ∧ RdF w' a (CM.rs (CM.rs p g) k) ∧ RdF w' b (CM.rs p g) ∧ Below w.heap.size w w' := by
  have h9 := hok.nine
  have hb0 := below_fresh w (.cells #[.slice none 0 0, .slice none 0 0] 25)
  have hP0 := XB.fresh w (.slice none 0 0) (.slice none 0 0)
  obtain ⟨w0, hw0⟩ : ∃ w0, w.alloc (.cells #[.slice none 0 0, .slice none 0 0] 25) = w0 := ⟨_, rfl⟩
  rw [hw0] at hb0 hP0
  obtain ⟨ad, cp, rfl, _, _⟩ := h.shape
  have H1 := Lib.hid (kPart _ p n w0 (h.below hb0) (by omega))
  have HP0 := Lib.hid hP0
  have HB0 := Lib.hid hb0
  have HW := Lib.hid hw0
  have H9 := Lib.hid h9
  clear h hok hb0 hP0 hw0 h9
  go_enter Try.func23, Try.ntmps23
  go_wp2_with fail
  rw [HW.out]
  refine H1.out.mono ?_
  rintro e w1 ⟨u, g, rfl, hr1, hb1⟩
  have HP1 := Lib.hid (HP0.out.below hb1)
  have HB1 := Lib.hid (bnext HB0.out hb1)
  have HR1 := Lib.hid hr1
  obtain ⟨ua, uc, rfl, _, _⟩ := hr1.shape
  clear hr1 hb1 H1 HP0 HB0 HW
  have HI := Lib.hid (fun w' => kIndex n 1099511627776 w' (by decide) (by decide))
  have hxr := ix_range (n := n) (show (1 : Int) ≤ 1099511627776 by decide)
  generalize ix n 1099511627776 = y at HI hxr
  have hq0 : (0 : Int) ≤ y := hxr.1
  have hq1 : y < 1099511627776 := hxr.2
  clear hxr
  go_wp2_with fail
  refine (HI.out w1).mono ?_
  rintro e w2 ⟨rfl, rfl⟩
  have HK := Lib.hid (fun m => kPart (.slice ua (CM.rs p g).length uc) (CM.rs p g) m w1 HR1.out (by have := CM.rs_len p g; have := H9.out; omega))
  clear HI
  go_wp2_with fail
  refine (HK.out _).mono ?_
  rintro e w3 ⟨u3, k, rfl, hr3, hb3⟩
  have HP3 := Lib.hid (HP1.out.below hb3)
  have HB3 := Lib.hid (bnext HB1.out hb3)
  have HR3 := Lib.hid (HR1.out.below hb3)
  have HS3 := Lib.hid hr3
  obtain ⟨va, vc, rfl, _, _⟩ := hr3.shape
  clear hr3 hb3 HK HP1 HB1 HR1
  obtain ⟨o0, o1, g0, g1⟩ := HP3.out.cells
  go_wp2
  refine certRet rfl rfl (HP3.out.put _ _) rfl ⟨_, _, g, k, rfl, ?_, ?_, ?_⟩
  · exact RdF.off HS3.out (HP3.out.slices ⟨_, _, _, rfl⟩ ⟨_, _, _, rfl⟩) (only2 _ _)
  · exact RdF.off HR3.out (HP3.out.slices ⟨_, _, _, rfl⟩ ⟨_, _, _, rfl⟩) (only2 _ _)
  · exact seen HB3.out (Nat.le_refl _) (only2 _ _)
end Go.Proofs.Ytfdgoehfkfdgaaa
