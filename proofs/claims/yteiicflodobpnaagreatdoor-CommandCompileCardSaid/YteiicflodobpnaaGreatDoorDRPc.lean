/-
  The call of the reference's placed: what DM.plc gives. Conditions: what came in reads; no version is negative.
-/
import Derived.Test.YteiicflodobpnaaGreatDoorDRPl
namespace Go.Proofs.YteiicflodobpnaaGreatDoor
open Go.RowKit Go.Joins Go.Shelf
open JM (Chg)
open MM (Mem Ent Sm Tri)

theorem pld_ret {R : Ending → World → Prop} {a : Act} {w : World} {g : Nat} {k s t v x y z er : Int} (hp : a.tmps.getD 6 undef = .pointer (some ⟨g, 0, none⟩)) (h3 : a.tmps.getD 7 undef = .int .i64 er) (hg : w.heap[g]? = some (cBox k s t v x y z))
    (hd : a.defers = []) (hR : R (.returned (.tuple #[cv k s t v x y z, .int .i64 er])) w) : bodyPost Tryz.prog Tryz.f27 R .ret a w := by
  have := results_cell_tmp1 (P := Tryz.prog) (fn := Tryz.f27) rfl a.tmps w g 52 _ _ _ hp hg Tryz.underlying52 rfl (by kernel_rfl)
  rw [h3] at this
  exact bodyPost_ret this hd hR
/-- The error is plc's; where there is none, so is the change. -/
def Qpost (p : Chg × Int) (w : World) (e : Ending) (w' : World) : Prop := (∃ k s t v a b c, e = .returned (.tuple #[cv k s t v a b c, .int .i64 p.2]) ∧ (p.2 = 0 → p.1 = (k, s, t, v, a, b, c))) ∧ Below w.heap.size w w'
/-- The error er is p's; where it is none, x is p's change. -/
def Okp (p : Chg × Int) (er : Int) (x : Chg) : Prop := p.2 = er ∧ (er = 0 → p.1 = x)
theorem okp_bad {p : Chg × Int} {er : Int} (h : p = (DM.zc, er)) (hn : er ≠ 0) (x : Chg) : Okp p er x := by rw [h]; exact ⟨rfl, fun e => absurd e hn⟩
theorem okp_ok {p : Chg × Int} {x : Chg} (h : p = (x, 0)) : Okp p 0 x := by rw [h]; exact ⟨rfl, fun _ => rfl⟩
theorem pld_fin {p : Chg × Int} {w X : World} (hX : X.heap[w.heap.size + 1 + 1]? = some (cBox 0 0 0 0 0 0 0)) (hB : Below w.heap.size w X) (k s t v a b c er : Int) (tm : Array Value) (e1 : Okp p er (k, s, t, v, a, b, c))
    (e2 : tm.getD 6 undef = .pointer (some ⟨w.heap.size + 1 + 1, 0, none⟩)) (e3 : tm.getD 7 undef = .int .i64 er) :
    bodyPost Tryz.prog Tryz.f27 (Qpost p w) .ret ⟨tm, []⟩ (((((((X.setCell ⟨w.heap.size + 1 + 1, 0, none⟩ (.int .i64 k)).setCell ⟨w.heap.size + 1 + 1, 1, none⟩ (.int .i64 s)).setCell ⟨w.heap.size + 1 + 1, 2, none⟩ (.int .i64 t)).setCell ⟨w.heap.size + 1 + 1, 3, none⟩ (.int .i64 v)).setCell ⟨w.heap.size + 1 + 1, 4, none⟩ (.int .i64 a)).setCell ⟨w.heap.size + 1 + 1, 5, none⟩ (.int .i64 b)).setCell ⟨w.heap.size + 1 + 1, 6, none⟩ (.int .i64 c)) := by
  have hput := row7_putO hX (.int .i64 k) (.int .i64 s) (.int .i64 t) (.int .i64 v) (.int .i64 a) (.int .i64 b) (.int .i64 c)
  obtain ⟨h1, h2⟩ := e1
  subst h1
  exact pld_ret e2 e3 hput.1 rfl ⟨⟨k, s, t, v, a, b, c, rfl, h2⟩, hB.trans (hput.2.below (by omega) hB.size)⟩
theorem has_drop {l : List Chg} {j : Nat} (h : j < l.length) (k s : Int) : DM.has (l.drop j) k s = ((l[j].1 == k && l[j].2.1 == s) || DM.has (l.drop (j + 1)) k s) := by
  rw [List.drop_eq_getElem_cons h]; rfl

set_option maxRecDepth 100000 in
set_option maxHeartbeats 8000000 in
theorem rPlaced (k sv t a b c : Int) (x y z : Value) (acc : List Chg) (va : Value) (s : Sm) (w : World) (hk : k = 1 ∨ k = 2 ∨ k = 3 ∨ k = 4) (hacc : RdC w va acc) (h6 : acc.length ≤ 6)
    (hx : RdI w x s.J) (hy : RdI w y s.R) (hz : RdW w z s.W) (hsv : 0 ≤ s.v) (hw : 0 ≤ DM.wv s.W sv) (hlW : s.W.length ≤ 1000000) :
    Calls Tryz.prog 27 #[cv k sv t 0 a b c, va, Go.Proofs.YteiicflodobpnaaGreatDoor.sv x y z s.k s.c s.f s.v s.a s.n] w (Qpost (DM.plc (k, sv, t, 0, a, b, c) acc s) w) := by
  obtain ⟨w3, hw3, hB, hR, hC, hS⟩ := rel_boxes w k sv t a b c x y z s
  have HH1 := Lib.hid (fun w' (hb : Below w.heap.size w w') => rJoins va acc sv w' (hacc.below hb))
  have HJ := Lib.hid (fun w' (hb : Below w.heap.size w w') => rInD x s.J sv w' (hx.below hb))
  have HRm := Lib.hid (fun w' (hb : Below w.heap.size w w') => rInD y s.R sv w' (hy.below hb))
  have HWV := Lib.hid (fun w' (hb : Below w.heap.size w w') => rEntryVersion x y z s sv w' (hz.below hb) hlW)
  obtain ⟨aa, ac, rfl, _, _⟩ := hacc.shape
  obtain ⟨xa, xc, rfl, _, _⟩ := hx.shape
  obtain ⟨ya, yc, rfl, _, _⟩ := hy.shape
  obtain ⟨za, zc, rfl, _, _⟩ := hz.shape
  have HACC := Lib.hid (hacc.below hB)
  have HB := Lib.hid hB
  have HR := Lib.hid hR
  have HC := Lib.hid hC
  have HS := Lib.hid hS
  have HW := Lib.hid hw3
  obtain ⟨PL, hPL⟩ : ∃ p, p = DM.plc (k, sv, t, 0, a, b, c) acc s := ⟨_, rfl⟩
  rw [← hPL]
  have HPL := Lib.hid hPL
  have HE := Lib.hid (plc_eq k sv t a b c acc s)
  rw [← HPL.out] at HE
  obtain ⟨inJ, hJ⟩ : ∃ m, m = s.J.contains sv := ⟨_, rfl⟩
  obtain ⟨inR, hRm⟩ : ∃ m, m = s.R.contains sv := ⟨_, rfl⟩
  obtain ⟨h1, hh1⟩ : ∃ h1, h1 = DM.has acc 1 sv := ⟨_, rfl⟩
  have HM := Lib.hid (show DM.mbr s sv = (inJ && !inR) by rw [hJ, hRm]; rfl)
  rw [← hh1] at HH1
  rw [← hJ] at HJ
  rw [← hRm] at HRm
  rw [← hJ, ← hRm, ← hh1, HM.out] at HE
  clear hJ hRm hh1 HM
  generalize DM.wv s.W sv = V at HWV HE hw
  have hv0 := hw
  clear hB hR hC hS hw3 hacc hx hy hz hPL hlW
  by_cases hl : 6 ≤ acc.length
  · have hp := HE.out.1 (by omega)
    have HP := Lib.hid (okp_bad hp (by decide) (k, sv, t, 0, a, b, c))
    have hq : (6 : Int) ≤ (acc.length : Int) := by omega
    clear hp HE hl h6 HPL
    obtain ⟨⟨r0, r1, r2, r3, r4, r5, r6⟩, f0, f1, f2, f3, f4, f5, f6⟩ := row7_atF HR.out
    obtain ⟨⟨c0, c1, c2, c3, c4, c5, c6⟩, _⟩ := row7_atF HC.out
    go_enter Tryz.func27, Tryz.ntmps27
    go_upto_region 1 with fail
    rw [HW.out]
    go_wp2
    exact pld_fin HR.out HB.out _ _ _ _ _ _ _ _ _ HP.out (by rfl) (by rfl)
  have hq6 : ¬ (6 : Int) ≤ (acc.length : Int) := by omega
  have HF := Lib.hid (HE.out.2 (by omega))
  have HAS := Lib.hid (show DM.has acc k sv = DM.has (acc.drop 0) k sv from rfl)
  clear HE HPL hl h6
  obtain ⟨R, hR⟩ : ∃ R, R = DM.has acc k sv := ⟨_, rfl⟩
  rw [← hR] at HF HAS
  have HRR := Lib.hid hR
  clear hR
  go_enter Tryz.func27, Tryz.ntmps27
  go_upto_region 1 with fail
  rw [HW.out]
  go_wp2
  go_loopw [8] (fun i wr => ∃ j : Nat, j ≤ acc.length ∧ i = .int .i64 j ∧ Hid (Below w3.heap.size w3 wr) ∧ Hid (R = DM.has (acc.drop j) k sv)) (fun i _ => acc.length - (intOf i).toNat)
  case atStart => exact ⟨0, Nat.zero_le _, rfl, Lib.hid (Below.refl _ _), HAS⟩
  case round =>
    obtain ⟨j, hj, rfl, hb, he⟩ := hrel
    clear HAS
    replace HC := Lib.hid (below_block HC.out hb.out)
    replace HS := Lib.hid (below_block HS.out hb.out)
    replace HR := Lib.hid (below_block HR.out hb.out)
    replace HB := Lib.hid (bnext HB.out hb.out)
    by_cases hlt : j < acc.length
    · have hq : (j : Int) < (acc.length : Int) := by omega
      have hat := List.getElem?_eq_getElem hlt
      have hdr := Lib.hid (has_drop hlt k sv)
      generalize acc[j] = y at hat hdr
      obtain ⟨k', s', t', v', a', b', c'⟩ := y
      obtain ⟨bb, o, hi, hbb, d0, d1, d2, d3, d4, d5, d6⟩ := atC (HACC.out.below hb.out) j _ _ _ _ _ _ _ hat
      have e0 := Lib.hid (show R = ((k' == k && s' == sv) || DM.has (acc.drop (j + 1)) k sv) by rw [he.out, hdr.out])
      obtain ⟨⟨c0, c1, c2, c3, c4, c5, c6⟩, _⟩ := row7_atF HC.out
      clear hat hdr he
      by_cases hkk : k' = k
      · have q1 : (k' == k) = true := by simp [hkk]
        by_cases hss : s' = sv
        · have q2 : (s' == sv) = true := by simp [hss]
          have e2 := Lib.hid (show R = true by rw [e0.out, q1, q2]; rfl)
          clear e0 hkk hss
          have hp := HF.out.1 e2.out
          have HP := Lib.hid (okp_bad hp (by decide) (k, sv, t, 0, a, b, c))
          obtain ⟨⟨r0, r1, r2, r3, r4, r5, r6⟩, f0, f1, f2, f3, f4, f5, f6⟩ := row7_atF HR.out
          clear hp HF
          go_wp2
          go_quiet (fail)
          go_wp2
          exact pld_fin (X := wr.drewN _) HR.out (HB.out.trans (below_drewN _ _ _)) _ _ _ _ _ _ _ _ _ HP.out (by rfl) (by rfl)
        · have q2 : (s' == sv) = false := by simpa using hss
          have e2 := Lib.hid (show R = DM.has (acc.drop (j + 1)) k sv by rw [e0.out, q1, q2]; rfl)
          clear e0 hkk hss
          go_wp2
          go_quiet (fail)
          go_wp2
          go_roundw
          case rel => exact ⟨j + 1, by omega, by go_num, Lib.hid (hb.out.trans (below_drewN _ _ _)), e2⟩
          case measure => simp [intOf]; omega
      · have q1 : (k' == k) = false := by simpa using hkk
        have e2 := Lib.hid (show R = DM.has (acc.drop (j + 1)) k sv by rw [e0.out, q1]; rfl)
        clear e0 hkk
        go_wp2
        go_quiet (fail)
        go_wp2
        go_roundw
        case rel => exact ⟨j + 1, by omega, by go_num, Lib.hid (hb.out.trans (below_drewN _ _ _)), e2⟩
        case measure => simp [intOf]; omega
    · have hq : ¬ (j : Int) < (acc.length : Int) := by omega
      have e2 := Lib.hid (show R = false by rw [he.out, List.drop_of_length_le (by omega)]; rfl)
      have HG := Lib.hid (HF.out.2 e2.out)
      clear he HF
      obtain ⟨⟨c0, c1, c2, c3, c4, c5, c6⟩, _⟩ := row7_atF HC.out
      obtain ⟨⟨s0, s1, s2, s3, s4, s5, s6, s7, s8⟩, _⟩ := row9_at HS.out
      go_upto_region 8 with fail
      refine wp_region_held_drew (S := fun w' => Below wr.heap.size wr w') (by kernel_rfl) ((Below.refl _ _).drew) (fun ha => ?_)
      replace ha : Below wr.heap.size wr wr.drew := (Below.refl _ _).drew
      generalize wr.drew = wa at ha ⊢
      refine takeH (i := 0) (v := ?_) rfl (by kernel_rfl) (by kernel_rfl) (by kernel_rfl) (fun _ _ _ h => h) (Or.inl ⟨by rfl, ?_⟩) (by assumption) ?_
      rotate_left
      · (intro w hSw; (try dsimp only at hSw); go_simp; first | done | with_reducible rfl)
      (try simp only [Act.put, List.setIfInBounds_toArray, List.set_cons_zero, List.set_cons_succ])
      refine takeH (i := 2) (v := ?_) rfl (by kernel_rfl) (by kernel_rfl) (by kernel_rfl) (fun _ _ _ h => h) (Or.inl ⟨by rfl, ?_⟩) (by assumption) ?_
      rotate_left
      · (intro w hSw; (try dsimp only at hSw); go_simp; first | done | with_reducible rfl)
      (try simp only [Act.put, List.setIfInBounds_toArray, List.set_cons_zero, List.set_cons_succ])
      refine takeH (i := 5) (v := ?_) rfl (by kernel_rfl) (by kernel_rfl) (by kernel_rfl) (fun _ _ _ h => h) (Or.inl ⟨by rfl, ?_⟩) (by assumption) ?_
      rotate_left
      · (intro w hSw; (try dsimp only at hSw); go_simp; first | done | with_reducible rfl)
      (try simp only [Act.put, List.setIfInBounds_toArray, List.set_cons_zero, List.set_cons_succ])
      refine takeH (i := 7) (v := ?_) rfl (by kernel_rfl) (by kernel_rfl) (by kernel_rfl) (fun _ _ _ h => h) (Or.inl ⟨by rfl, ?_⟩) (by assumption) ?_
      rotate_left
      · (intro w hSw; (try dsimp only at hSw); go_simp; first | done | with_reducible rfl)
      (try simp only [Act.put, List.setIfInBounds_toArray, List.set_cons_zero, List.set_cons_succ])
      refine takeH (i := 1) (v := ?_) rfl (by kernel_rfl) (by kernel_rfl) (by kernel_rfl) (fun _ _ _ h => h) (Or.inl ⟨by rfl, ?_⟩) (by assumption) ?_
      rotate_left
      · (intro w hSw; (try dsimp only at hSw); obtain ⟨⟨s0, s1, s2, s3, s4, s5, s6, s7, s8⟩, _⟩ := row9_at (below_block HS.out hSw); go_simp; first | done | with_reducible rfl)
      (try simp only [Act.put, List.setIfInBounds_toArray, List.set_cons_zero, List.set_cons_succ])
      refine takeH (i := 3) (v := ?_) rfl (by kernel_rfl) (by kernel_rfl) (by kernel_rfl) (fun _ _ _ h => h) (Or.inl ⟨by rfl, ?_⟩) (by assumption) ?_
      rotate_left
      · (intro w hSw; (try dsimp only at hSw); obtain ⟨⟨c0, c1, c2, c3, c4, c5, c6⟩, _⟩ := row7_atF (below_block HC.out hSw); go_simp; first | done | with_reducible rfl)
      (try simp only [Act.put, List.setIfInBounds_toArray, List.set_cons_zero, List.set_cons_succ])
      refine takeH (i := 6) (v := ?_) rfl (by kernel_rfl) (by kernel_rfl) (by kernel_rfl) (fun _ _ _ h => h) (Or.inl ⟨by rfl, ?_⟩) (by assumption) ?_
      rotate_left
      · (intro w hSw; (try dsimp only at hSw); obtain ⟨⟨s0, s1, s2, s3, s4, s5, s6, s7, s8⟩, _⟩ := row9_at (below_block HS.out hSw); go_simp; first | done | with_reducible rfl)
      (try simp only [Act.put, List.setIfInBounds_toArray, List.set_cons_zero, List.set_cons_succ])
      refine takeH (i := 8) (v := ?_) rfl (by kernel_rfl) (by kernel_rfl) (by kernel_rfl) (fun _ _ _ h => h) (Or.inl ⟨by rfl, ?_⟩) (by assumption) ?_
      rotate_left
      · (intro w hSw; (try dsimp only at hSw); obtain ⟨⟨c0, c1, c2, c3, c4, c5, c6⟩, _⟩ := row7_atF (below_block HC.out hSw); go_simp; first | done | with_reducible rfl)
      (try simp only [Act.put, List.setIfInBounds_toArray, List.set_cons_zero, List.set_cons_succ])
      refine wpAnyH_ready (rs := [4]) (by kernel_rfl) (by simp) ?_
      refine stepH rfl (fun K hK => ?_) AllReadyH.nil
      go_simp
      refine (HJ.out wa (bnext HB.out ha)).mono ?_
      rintro e wb ⟨rfl, hq⟩
      have hb2 := bnext ha hq
      go_wp2_with fail
      refine hK.out _ _ (hb2) (fun _ => ?_)
      clear hK K
      (try simp only [Act.put, List.setIfInBounds_toArray, List.set_cons_zero, List.set_cons_succ])
      refine wpAnyH_ready (rs := [9]) (by kernel_rfl) (by simp) ?_
      refine stepH rfl (fun K hK => ?_) AllReadyH.nil
      go_simp
      refine (HRm.out wb (bnext HB.out hb2)).mono ?_
      rintro e wc ⟨rfl, hq⟩
      have hb3 := bnext hb2 hq
      go_wp2_with fail
      refine hK.out _ _ (hb3) (fun _ => ?_)
      clear hK K
      (try simp only [Act.put, List.setIfInBounds_toArray, List.set_cons_zero, List.set_cons_succ])
      refine takeH (i := 10) (v := ?_) rfl (by kernel_rfl) (by kernel_rfl) (by kernel_rfl) (fun _ _ _ h => h) (Or.inl ⟨by rfl, ?_⟩) (by assumption) ?_
      rotate_left
      · (intro w hSw; (try dsimp only at hSw); go_simp; first | done | with_reducible rfl)
      (try simp only [Act.put, List.setIfInBounds_toArray, List.set_cons_zero, List.set_cons_succ])
      refine takeH (i := 11) (v := ?_) rfl (by kernel_rfl) (by kernel_rfl) (by kernel_rfl) (fun _ _ _ h => h) (Or.inl ⟨by rfl, ?_⟩) (by assumption) ?_
      rotate_left
      · (intro w hSw; (try dsimp only at hSw); go_simp; first | done | with_reducible rfl)
      (try simp only [Act.put, List.setIfInBounds_toArray, List.set_cons_zero, List.set_cons_succ])
      refine wpAnyH_done (by kernel_rfl) ?_ _
      replace HC := Lib.hid (below_block HC.out hb3)
      replace HS := Lib.hid (below_block HS.out hb3)
      replace HR := Lib.hid (below_block HR.out hb3)
      replace HB := Lib.hid (bnext HB.out hb3)
      clear ha hb2 hb3 hq hb HJ HRm HACC HRR e2 c0 c1 c2 c3 c4 c5 c6 s0 s1 s2 s3 s4 s5 s6 s7 s8
      -- KINDS
      rcases hk with rfl | rfl | rfl | rfl
      · have HK := Lib.hid (HG.out.1 rfl)
        clear HG HWV HH1
        obtain ⟨⟨c0, c1, c2, c3, c4, c5, c6⟩, _⟩ := row7_atF HC.out
        obtain ⟨⟨r0, r1, r2, r3, r4, r5, r6⟩, f0, f1, f2, f3, f4, f5, f6⟩ := row7_atF HR.out
        cases inJ
        · cases inR
          · skip
            have HP := Lib.hid (okp_ok (p := PL) (x := (1, sv, t, 0, a, b, c)) (by first | exact HK.out.2 rfl rfl | exact HK.out.2 rfl rfl | exact HK.out.2))
            clear HK
            go_wp2
            exact pld_fin HR.out HB.out _ _ _ _ _ _ _ _ _ HP.out (by rfl) (by rfl)
          · skip
            have HP := Lib.hid (okp_bad (p := PL) (by first | exact HK.out.1 (.inr rfl) | exact HK.out.1 (.inr rfl)) (show (5 : Int) ≠ 0 by decide) (1, sv, t, 0, a, b, c))
            clear HK
            go_wp2
            exact pld_fin HR.out HB.out _ _ _ _ _ _ _ _ _ HP.out (by rfl) (by rfl)
        · skip
          have HP := Lib.hid (okp_bad (p := PL) (by first | exact HK.out.1 (.inl rfl) | exact HK.out.1 (.inl rfl)) (show (5 : Int) ≠ 0 by decide) (1, sv, t, 0, a, b, c))
          clear HK
          go_wp2
          exact pld_fin HR.out HB.out _ _ _ _ _ _ _ _ _ HP.out (by rfl) (by rfl)
      · have HK := Lib.hid (HG.out.2.1 rfl)
        clear HG
        cases inJ <;> cases inR
        · skip
          obtain ⟨⟨c0, c1, c2, c3, c4, c5, c6⟩, _⟩ := row7_atF HC.out
          go_wp2_with fail
          refine (HH1.out _ HB.out).mono ?_
          rintro e wd ⟨rfl, hq⟩
          clear c0 c1 c2 c3 c4 c5 c6
          replace HC := Lib.hid (below_block HC.out hq)
          replace HS := Lib.hid (below_block HS.out hq)
          replace HR := Lib.hid (below_block HR.out hq)
          replace HB := Lib.hid (bnext HB.out hq)
          clear hq HH1
          cases h1
          · skip
            have HP := Lib.hid (okp_bad (p := PL) (by first | exact HK.out.1 rfl rfl | exact HK.out.1 rfl rfl) (show (6 : Int) ≠ 0 by decide) (2, sv, t, 0, a, b, c))
            obtain ⟨⟨c0, c1, c2, c3, c4, c5, c6⟩, _⟩ := row7_atF HC.out
            obtain ⟨⟨r0, r1, r2, r3, r4, r5, r6⟩, f0, f1, f2, f3, f4, f5, f6⟩ := row7_atF HR.out
            clear HK HWV
            go_wp2
            exact pld_fin HR.out HB.out _ _ _ _ _ _ _ _ _ HP.out (by rfl) (by rfl)
          · skip
            have HP := Lib.hid (okp_ok (p := PL) (x := (2, sv, t, 0, a, b, c)) (by first | exact HK.out.2 (.inr rfl) | exact HK.out.2 (.inr rfl) | exact HK.out.2 (.inr rfl)))
            obtain ⟨⟨c0, c1, c2, c3, c4, c5, c6⟩, _⟩ := row7_atF HC.out
            obtain ⟨⟨r0, r1, r2, r3, r4, r5, r6⟩, f0, f1, f2, f3, f4, f5, f6⟩ := row7_atF HR.out
            clear HK HWV
            go_wp2
            exact pld_fin HR.out HB.out _ _ _ _ _ _ _ _ _ HP.out (by rfl) (by rfl)
        · skip
          obtain ⟨⟨c0, c1, c2, c3, c4, c5, c6⟩, _⟩ := row7_atF HC.out
          go_wp2_with fail
          refine (HH1.out _ HB.out).mono ?_
          rintro e wd ⟨rfl, hq⟩
          clear c0 c1 c2 c3 c4 c5 c6
          replace HC := Lib.hid (below_block HC.out hq)
          replace HS := Lib.hid (below_block HS.out hq)
          replace HR := Lib.hid (below_block HR.out hq)
          replace HB := Lib.hid (bnext HB.out hq)
          clear hq HH1
          cases h1
          · skip
            have HP := Lib.hid (okp_bad (p := PL) (by first | exact HK.out.1 rfl rfl | exact HK.out.1 rfl rfl) (show (6 : Int) ≠ 0 by decide) (2, sv, t, 0, a, b, c))
            obtain ⟨⟨c0, c1, c2, c3, c4, c5, c6⟩, _⟩ := row7_atF HC.out
            obtain ⟨⟨r0, r1, r2, r3, r4, r5, r6⟩, f0, f1, f2, f3, f4, f5, f6⟩ := row7_atF HR.out
            clear HK HWV
            go_wp2
            exact pld_fin HR.out HB.out _ _ _ _ _ _ _ _ _ HP.out (by rfl) (by rfl)
          · skip
            have HP := Lib.hid (okp_ok (p := PL) (x := (2, sv, t, 0, a, b, c)) (by first | exact HK.out.2 (.inr rfl) | exact HK.out.2 (.inr rfl) | exact HK.out.2 (.inr rfl)))
            obtain ⟨⟨c0, c1, c2, c3, c4, c5, c6⟩, _⟩ := row7_atF HC.out
            obtain ⟨⟨r0, r1, r2, r3, r4, r5, r6⟩, f0, f1, f2, f3, f4, f5, f6⟩ := row7_atF HR.out
            clear HK HWV
            go_wp2
            exact pld_fin HR.out HB.out _ _ _ _ _ _ _ _ _ HP.out (by rfl) (by rfl)
        · skip
          have HP := Lib.hid (okp_ok (p := PL) (x := (2, sv, t, 0, a, b, c)) (by first | exact HK.out.2 (.inl rfl) | exact HK.out.2 (.inl rfl) | exact HK.out.2 (.inl rfl)))
          obtain ⟨⟨c0, c1, c2, c3, c4, c5, c6⟩, _⟩ := row7_atF HC.out
          obtain ⟨⟨r0, r1, r2, r3, r4, r5, r6⟩, f0, f1, f2, f3, f4, f5, f6⟩ := row7_atF HR.out
          clear HK HWV HH1
          go_wp2
          exact pld_fin HR.out HB.out _ _ _ _ _ _ _ _ _ HP.out (by rfl) (by rfl)
        · skip
          obtain ⟨⟨c0, c1, c2, c3, c4, c5, c6⟩, _⟩ := row7_atF HC.out
          go_wp2_with fail
          refine (HH1.out _ HB.out).mono ?_
          rintro e wd ⟨rfl, hq⟩
          clear c0 c1 c2 c3 c4 c5 c6
          replace HC := Lib.hid (below_block HC.out hq)
          replace HS := Lib.hid (below_block HS.out hq)
          replace HR := Lib.hid (below_block HR.out hq)
          replace HB := Lib.hid (bnext HB.out hq)
          clear hq HH1
          cases h1
          · skip
            have HP := Lib.hid (okp_bad (p := PL) (by first | exact HK.out.1 rfl rfl | exact HK.out.1 rfl rfl) (show (6 : Int) ≠ 0 by decide) (2, sv, t, 0, a, b, c))
            obtain ⟨⟨c0, c1, c2, c3, c4, c5, c6⟩, _⟩ := row7_atF HC.out
            obtain ⟨⟨r0, r1, r2, r3, r4, r5, r6⟩, f0, f1, f2, f3, f4, f5, f6⟩ := row7_atF HR.out
            clear HK HWV
            go_wp2
            exact pld_fin HR.out HB.out _ _ _ _ _ _ _ _ _ HP.out (by rfl) (by rfl)
          · skip
            have HP := Lib.hid (okp_ok (p := PL) (x := (2, sv, t, 0, a, b, c)) (by first | exact HK.out.2 (.inr rfl) | exact HK.out.2 (.inr rfl) | exact HK.out.2 (.inr rfl)))
            obtain ⟨⟨c0, c1, c2, c3, c4, c5, c6⟩, _⟩ := row7_atF HC.out
            obtain ⟨⟨r0, r1, r2, r3, r4, r5, r6⟩, f0, f1, f2, f3, f4, f5, f6⟩ := row7_atF HR.out
            clear HK HWV
            go_wp2
            exact pld_fin HR.out HB.out _ _ _ _ _ _ _ _ _ HP.out (by rfl) (by rfl)
      · have HK := Lib.hid (HG.out.2.2.1 rfl)
        clear HG
        cases inJ <;> cases inR
        · skip
          obtain ⟨⟨c0, c1, c2, c3, c4, c5, c6⟩, _⟩ := row7_atF HC.out
          go_wp2_with fail
          refine (HH1.out _ HB.out).mono ?_
          rintro e wd ⟨rfl, hq⟩
          clear c0 c1 c2 c3 c4 c5 c6
          replace HC := Lib.hid (below_block HC.out hq)
          replace HS := Lib.hid (below_block HS.out hq)
          replace HR := Lib.hid (below_block HR.out hq)
          replace HB := Lib.hid (bnext HB.out hq)
          clear hq HH1
          cases h1
          · skip
            have HP := Lib.hid (okp_bad (p := PL) (by first | exact HK.out.1 rfl rfl | exact HK.out.1 rfl rfl) (show (6 : Int) ≠ 0 by decide) (3, sv, t, 0, a, b, c))
            obtain ⟨⟨c0, c1, c2, c3, c4, c5, c6⟩, _⟩ := row7_atF HC.out
            obtain ⟨⟨r0, r1, r2, r3, r4, r5, r6⟩, f0, f1, f2, f3, f4, f5, f6⟩ := row7_atF HR.out
            clear HK HWV
            go_wp2
            exact pld_fin HR.out HB.out _ _ _ _ _ _ _ _ _ HP.out (by rfl) (by rfl)
          · skip
            have HK2 := Lib.hid (HK.out.2 (.inr rfl))
            clear HK
            obtain ⟨⟨c0, c1, c2, c3, c4, c5, c6⟩, _⟩ := row7_atF HC.out
            obtain ⟨⟨s0, s1, s2, s3, s4, s5, s6, s7, s8⟩, _⟩ := row9_at HS.out
            go_wp2_with fail
            refine (HWV.out _ HB.out).mono ?_
            rintro e we ⟨rfl, hq⟩
            clear c0 c1 c2 c3 c4 c5 c6 s0 s1 s2 s3 s4 s5 s6 s7 s8
            replace HC := Lib.hid (below_block HC.out hq)
            replace HS := Lib.hid (below_block HS.out hq)
            replace HR := Lib.hid (below_block HR.out hq)
            replace HB := Lib.hid (bnext HB.out hq)
            clear hq
            by_cases hv : V < 1000
            case neg =>
              have HP := Lib.hid (okp_bad (p := PL) (by first | exact HK2.out.2 hv | exact HK2.out.2 (by omega)) (show (9 : Int) ≠ 0 by decide) (3, sv, t, 0, a, b, c))
              have g9 : (1000 : Int) ≤ V := by omega
              clear HK2 HWV hv
              obtain ⟨⟨c0, c1, c2, c3, c4, c5, c6⟩, _⟩ := row7_atF HC.out
              obtain ⟨⟨r0, r1, r2, r3, r4, r5, r6⟩, f0, f1, f2, f3, f4, f5, f6⟩ := row7_atF HR.out
              go_wp2
              exact pld_fin HR.out HB.out _ _ _ _ _ _ _ _ _ HP.out (by rfl) (by rfl)
            have g9 : ¬ (1000 : Int) ≤ V := by omega
            obtain ⟨⟨c0, c1, c2, c3, c4, c5, c6⟩, _⟩ := row7_atF HC.out
            obtain ⟨⟨s0, s1, s2, s3, s4, s5, s6, s7, s8⟩, _⟩ := row9_at HS.out
            go_wp2_with fail
            refine (HWV.out _ HB.out).mono ?_
            rintro e wf ⟨rfl, hq⟩
            clear c0 c1 c2 c3 c4 c5 c6 s0 s1 s2 s3 s4 s5 s6 s7 s8
            replace HC := Lib.hid (below_block HC.out hq)
            replace HS := Lib.hid (below_block HS.out hq)
            replace HR := Lib.hid (below_block HR.out hq)
            replace HB := Lib.hid (bnext HB.out hq)
            clear hq
            have HP := Lib.hid (okp_ok (p := PL) (x := (3, sv, t, V + 1, a, b, c)) (by first | exact HK2.out.1 hv | exact HK2.out.1 (by omega) | exact HK2.out.1 hv))
            have HC3 := Lib.hid (show (wf.setCell ⟨w.heap.size, 3, none⟩ (.int .i64 (V + 1))).heap[w.heap.size]? = some (cBox 3 sv t (V + 1) a b c) from heap_setCell_same wf w.heap.size 3 _ _ (.int .i64 (V + 1)) HC.out)
            have HR3 := Lib.hid (show (wf.setCell ⟨w.heap.size, 3, none⟩ (.int .i64 (V + 1))).heap[w.heap.size + 1 + 1]? = some (cBox 0 0 0 0 0 0 0) from (heap_setCell_other _ _ _ _ (show w.heap.size + 1 + 1 ≠ w.heap.size by omega)).trans HR.out)
            have HB3 := Lib.hid (HB.out.setCell (p := ⟨w.heap.size, 3, none⟩) (Nat.le_refl _) (.int .i64 (V + 1)))
            obtain ⟨⟨_, _, _, c3, _, _, _⟩, _, _, _, g3, _, _, _⟩ := row7_atF HC.out
            obtain ⟨⟨d0, d1, d2, d3, d4, d5, d6⟩, _⟩ := row7_atF HC3.out
            obtain ⟨⟨e0, e1, e2, e3, e4, e5, e6⟩, h0, h1, h2, h3, h4, h5, h6⟩ := row7_atF HR3.out
            clear HK2 HWV hv
            go_wp2
            exact pld_fin HR3.out HB3.out _ _ _ _ _ _ _ _ _ HP.out (by rfl) (by rfl)
        · skip
          obtain ⟨⟨c0, c1, c2, c3, c4, c5, c6⟩, _⟩ := row7_atF HC.out
          go_wp2_with fail
          refine (HH1.out _ HB.out).mono ?_
          rintro e wd ⟨rfl, hq⟩
          clear c0 c1 c2 c3 c4 c5 c6
          replace HC := Lib.hid (below_block HC.out hq)
          replace HS := Lib.hid (below_block HS.out hq)
          replace HR := Lib.hid (below_block HR.out hq)
          replace HB := Lib.hid (bnext HB.out hq)
          clear hq HH1
          cases h1
          · skip
            have HP := Lib.hid (okp_bad (p := PL) (by first | exact HK.out.1 rfl rfl | exact HK.out.1 rfl rfl) (show (6 : Int) ≠ 0 by decide) (3, sv, t, 0, a, b, c))
            obtain ⟨⟨c0, c1, c2, c3, c4, c5, c6⟩, _⟩ := row7_atF HC.out
            obtain ⟨⟨r0, r1, r2, r3, r4, r5, r6⟩, f0, f1, f2, f3, f4, f5, f6⟩ := row7_atF HR.out
            clear HK HWV
            go_wp2
            exact pld_fin HR.out HB.out _ _ _ _ _ _ _ _ _ HP.out (by rfl) (by rfl)
          · skip
            have HK2 := Lib.hid (HK.out.2 (.inr rfl))
            clear HK
            obtain ⟨⟨c0, c1, c2, c3, c4, c5, c6⟩, _⟩ := row7_atF HC.out
            obtain ⟨⟨s0, s1, s2, s3, s4, s5, s6, s7, s8⟩, _⟩ := row9_at HS.out
            go_wp2_with fail
            refine (HWV.out _ HB.out).mono ?_
            rintro e we ⟨rfl, hq⟩
            clear c0 c1 c2 c3 c4 c5 c6 s0 s1 s2 s3 s4 s5 s6 s7 s8
            replace HC := Lib.hid (below_block HC.out hq)
            replace HS := Lib.hid (below_block HS.out hq)
            replace HR := Lib.hid (below_block HR.out hq)
            replace HB := Lib.hid (bnext HB.out hq)
            clear hq
            by_cases hv : V < 1000
            case neg =>
              have HP := Lib.hid (okp_bad (p := PL) (by first | exact HK2.out.2 hv | exact HK2.out.2 (by omega)) (show (9 : Int) ≠ 0 by decide) (3, sv, t, 0, a, b, c))
              have g9 : (1000 : Int) ≤ V := by omega
              clear HK2 HWV hv
              obtain ⟨⟨c0, c1, c2, c3, c4, c5, c6⟩, _⟩ := row7_atF HC.out
              obtain ⟨⟨r0, r1, r2, r3, r4, r5, r6⟩, f0, f1, f2, f3, f4, f5, f6⟩ := row7_atF HR.out
              go_wp2
              exact pld_fin HR.out HB.out _ _ _ _ _ _ _ _ _ HP.out (by rfl) (by rfl)
            have g9 : ¬ (1000 : Int) ≤ V := by omega
            obtain ⟨⟨c0, c1, c2, c3, c4, c5, c6⟩, _⟩ := row7_atF HC.out
            obtain ⟨⟨s0, s1, s2, s3, s4, s5, s6, s7, s8⟩, _⟩ := row9_at HS.out
            go_wp2_with fail
            refine (HWV.out _ HB.out).mono ?_
            rintro e wf ⟨rfl, hq⟩
            clear c0 c1 c2 c3 c4 c5 c6 s0 s1 s2 s3 s4 s5 s6 s7 s8
            replace HC := Lib.hid (below_block HC.out hq)
            replace HS := Lib.hid (below_block HS.out hq)
            replace HR := Lib.hid (below_block HR.out hq)
            replace HB := Lib.hid (bnext HB.out hq)
            clear hq
            have HP := Lib.hid (okp_ok (p := PL) (x := (3, sv, t, V + 1, a, b, c)) (by first | exact HK2.out.1 hv | exact HK2.out.1 (by omega) | exact HK2.out.1 hv))
            have HC3 := Lib.hid (show (wf.setCell ⟨w.heap.size, 3, none⟩ (.int .i64 (V + 1))).heap[w.heap.size]? = some (cBox 3 sv t (V + 1) a b c) from heap_setCell_same wf w.heap.size 3 _ _ (.int .i64 (V + 1)) HC.out)
            have HR3 := Lib.hid (show (wf.setCell ⟨w.heap.size, 3, none⟩ (.int .i64 (V + 1))).heap[w.heap.size + 1 + 1]? = some (cBox 0 0 0 0 0 0 0) from (heap_setCell_other _ _ _ _ (show w.heap.size + 1 + 1 ≠ w.heap.size by omega)).trans HR.out)
            have HB3 := Lib.hid (HB.out.setCell (p := ⟨w.heap.size, 3, none⟩) (Nat.le_refl _) (.int .i64 (V + 1)))
            obtain ⟨⟨_, _, _, c3, _, _, _⟩, _, _, _, g3, _, _, _⟩ := row7_atF HC.out
            obtain ⟨⟨d0, d1, d2, d3, d4, d5, d6⟩, _⟩ := row7_atF HC3.out
            obtain ⟨⟨e0, e1, e2, e3, e4, e5, e6⟩, h0, h1, h2, h3, h4, h5, h6⟩ := row7_atF HR3.out
            clear HK2 HWV hv
            go_wp2
            exact pld_fin HR3.out HB3.out _ _ _ _ _ _ _ _ _ HP.out (by rfl) (by rfl)
        · skip
          have HK2 := Lib.hid (HK.out.2 (.inl rfl))
          clear HK HH1
          obtain ⟨⟨c0, c1, c2, c3, c4, c5, c6⟩, _⟩ := row7_atF HC.out
          obtain ⟨⟨s0, s1, s2, s3, s4, s5, s6, s7, s8⟩, _⟩ := row9_at HS.out
          go_wp2_with fail
          refine (HWV.out _ HB.out).mono ?_
          rintro e we ⟨rfl, hq⟩
          clear c0 c1 c2 c3 c4 c5 c6 s0 s1 s2 s3 s4 s5 s6 s7 s8
          replace HC := Lib.hid (below_block HC.out hq)
          replace HS := Lib.hid (below_block HS.out hq)
          replace HR := Lib.hid (below_block HR.out hq)
          replace HB := Lib.hid (bnext HB.out hq)
          clear hq
          by_cases hv : V < 1000
          case neg =>
            have HP := Lib.hid (okp_bad (p := PL) (by first | exact HK2.out.2 hv | exact HK2.out.2 (by omega)) (show (9 : Int) ≠ 0 by decide) (3, sv, t, 0, a, b, c))
            have g9 : (1000 : Int) ≤ V := by omega
            clear HK2 HWV hv
            obtain ⟨⟨c0, c1, c2, c3, c4, c5, c6⟩, _⟩ := row7_atF HC.out
            obtain ⟨⟨r0, r1, r2, r3, r4, r5, r6⟩, f0, f1, f2, f3, f4, f5, f6⟩ := row7_atF HR.out
            go_wp2
            exact pld_fin HR.out HB.out _ _ _ _ _ _ _ _ _ HP.out (by rfl) (by rfl)
          have g9 : ¬ (1000 : Int) ≤ V := by omega
          obtain ⟨⟨c0, c1, c2, c3, c4, c5, c6⟩, _⟩ := row7_atF HC.out
          obtain ⟨⟨s0, s1, s2, s3, s4, s5, s6, s7, s8⟩, _⟩ := row9_at HS.out
          go_wp2_with fail
          refine (HWV.out _ HB.out).mono ?_
          rintro e wf ⟨rfl, hq⟩
          clear c0 c1 c2 c3 c4 c5 c6 s0 s1 s2 s3 s4 s5 s6 s7 s8
          replace HC := Lib.hid (below_block HC.out hq)
          replace HS := Lib.hid (below_block HS.out hq)
          replace HR := Lib.hid (below_block HR.out hq)
          replace HB := Lib.hid (bnext HB.out hq)
          clear hq
          have HP := Lib.hid (okp_ok (p := PL) (x := (3, sv, t, V + 1, a, b, c)) (by first | exact HK2.out.1 hv | exact HK2.out.1 (by omega) | exact HK2.out.1 hv))
          have HC3 := Lib.hid (show (wf.setCell ⟨w.heap.size, 3, none⟩ (.int .i64 (V + 1))).heap[w.heap.size]? = some (cBox 3 sv t (V + 1) a b c) from heap_setCell_same wf w.heap.size 3 _ _ (.int .i64 (V + 1)) HC.out)
          have HR3 := Lib.hid (show (wf.setCell ⟨w.heap.size, 3, none⟩ (.int .i64 (V + 1))).heap[w.heap.size + 1 + 1]? = some (cBox 0 0 0 0 0 0 0) from (heap_setCell_other _ _ _ _ (show w.heap.size + 1 + 1 ≠ w.heap.size by omega)).trans HR.out)
          have HB3 := Lib.hid (HB.out.setCell (p := ⟨w.heap.size, 3, none⟩) (Nat.le_refl _) (.int .i64 (V + 1)))
          obtain ⟨⟨_, _, _, c3, _, _, _⟩, _, _, _, g3, _, _, _⟩ := row7_atF HC.out
          obtain ⟨⟨d0, d1, d2, d3, d4, d5, d6⟩, _⟩ := row7_atF HC3.out
          obtain ⟨⟨e0, e1, e2, e3, e4, e5, e6⟩, h0, h1, h2, h3, h4, h5, h6⟩ := row7_atF HR3.out
          clear HK2 HWV hv
          go_wp2
          exact pld_fin HR3.out HB3.out _ _ _ _ _ _ _ _ _ HP.out (by rfl) (by rfl)
        · skip
          obtain ⟨⟨c0, c1, c2, c3, c4, c5, c6⟩, _⟩ := row7_atF HC.out
          go_wp2_with fail
          refine (HH1.out _ HB.out).mono ?_
          rintro e wd ⟨rfl, hq⟩
          clear c0 c1 c2 c3 c4 c5 c6
          replace HC := Lib.hid (below_block HC.out hq)
          replace HS := Lib.hid (below_block HS.out hq)
          replace HR := Lib.hid (below_block HR.out hq)
          replace HB := Lib.hid (bnext HB.out hq)
          clear hq HH1
          cases h1
          · skip
            have HP := Lib.hid (okp_bad (p := PL) (by first | exact HK.out.1 rfl rfl | exact HK.out.1 rfl rfl) (show (6 : Int) ≠ 0 by decide) (3, sv, t, 0, a, b, c))
            obtain ⟨⟨c0, c1, c2, c3, c4, c5, c6⟩, _⟩ := row7_atF HC.out
            obtain ⟨⟨r0, r1, r2, r3, r4, r5, r6⟩, f0, f1, f2, f3, f4, f5, f6⟩ := row7_atF HR.out
            clear HK HWV
            go_wp2
            exact pld_fin HR.out HB.out _ _ _ _ _ _ _ _ _ HP.out (by rfl) (by rfl)
          · skip
            have HK2 := Lib.hid (HK.out.2 (.inr rfl))
            clear HK
            obtain ⟨⟨c0, c1, c2, c3, c4, c5, c6⟩, _⟩ := row7_atF HC.out
            obtain ⟨⟨s0, s1, s2, s3, s4, s5, s6, s7, s8⟩, _⟩ := row9_at HS.out
            go_wp2_with fail
            refine (HWV.out _ HB.out).mono ?_
            rintro e we ⟨rfl, hq⟩
            clear c0 c1 c2 c3 c4 c5 c6 s0 s1 s2 s3 s4 s5 s6 s7 s8
            replace HC := Lib.hid (below_block HC.out hq)
            replace HS := Lib.hid (below_block HS.out hq)
            replace HR := Lib.hid (below_block HR.out hq)
            replace HB := Lib.hid (bnext HB.out hq)
            clear hq
            by_cases hv : V < 1000
            case neg =>
              have HP := Lib.hid (okp_bad (p := PL) (by first | exact HK2.out.2 hv | exact HK2.out.2 (by omega)) (show (9 : Int) ≠ 0 by decide) (3, sv, t, 0, a, b, c))
              have g9 : (1000 : Int) ≤ V := by omega
              clear HK2 HWV hv
              obtain ⟨⟨c0, c1, c2, c3, c4, c5, c6⟩, _⟩ := row7_atF HC.out
              obtain ⟨⟨r0, r1, r2, r3, r4, r5, r6⟩, f0, f1, f2, f3, f4, f5, f6⟩ := row7_atF HR.out
              go_wp2
              exact pld_fin HR.out HB.out _ _ _ _ _ _ _ _ _ HP.out (by rfl) (by rfl)
            have g9 : ¬ (1000 : Int) ≤ V := by omega
            obtain ⟨⟨c0, c1, c2, c3, c4, c5, c6⟩, _⟩ := row7_atF HC.out
            obtain ⟨⟨s0, s1, s2, s3, s4, s5, s6, s7, s8⟩, _⟩ := row9_at HS.out
            go_wp2_with fail
            refine (HWV.out _ HB.out).mono ?_
            rintro e wf ⟨rfl, hq⟩
            clear c0 c1 c2 c3 c4 c5 c6 s0 s1 s2 s3 s4 s5 s6 s7 s8
            replace HC := Lib.hid (below_block HC.out hq)
            replace HS := Lib.hid (below_block HS.out hq)
            replace HR := Lib.hid (below_block HR.out hq)
            replace HB := Lib.hid (bnext HB.out hq)
            clear hq
            have HP := Lib.hid (okp_ok (p := PL) (x := (3, sv, t, V + 1, a, b, c)) (by first | exact HK2.out.1 hv | exact HK2.out.1 (by omega) | exact HK2.out.1 hv))
            have HC3 := Lib.hid (show (wf.setCell ⟨w.heap.size, 3, none⟩ (.int .i64 (V + 1))).heap[w.heap.size]? = some (cBox 3 sv t (V + 1) a b c) from heap_setCell_same wf w.heap.size 3 _ _ (.int .i64 (V + 1)) HC.out)
            have HR3 := Lib.hid (show (wf.setCell ⟨w.heap.size, 3, none⟩ (.int .i64 (V + 1))).heap[w.heap.size + 1 + 1]? = some (cBox 0 0 0 0 0 0 0) from (heap_setCell_other _ _ _ _ (show w.heap.size + 1 + 1 ≠ w.heap.size by omega)).trans HR.out)
            have HB3 := Lib.hid (HB.out.setCell (p := ⟨w.heap.size, 3, none⟩) (Nat.le_refl _) (.int .i64 (V + 1)))
            obtain ⟨⟨_, _, _, c3, _, _, _⟩, _, _, _, g3, _, _, _⟩ := row7_atF HC.out
            obtain ⟨⟨d0, d1, d2, d3, d4, d5, d6⟩, _⟩ := row7_atF HC3.out
            obtain ⟨⟨e0, e1, e2, e3, e4, e5, e6⟩, h0, h1, h2, h3, h4, h5, h6⟩ := row7_atF HR3.out
            clear HK2 HWV hv
            go_wp2
            exact pld_fin HR3.out HB3.out _ _ _ _ _ _ _ _ _ HP.out (by rfl) (by rfl)
      · have HK := Lib.hid (HG.out.2.2.2 rfl)
        clear HG HWV HH1
        have hs0 := hsv
        by_cases hv : s.v < 1000
        case neg =>
          obtain ⟨⟨_, _, _, _, _, _, s6, _, _⟩, _⟩ := row9_at HS.out
          have HP := Lib.hid (okp_bad (p := PL) (by first | exact HK.out.2 hv | exact HK.out.2 (by omega)) (show (9 : Int) ≠ 0 by decide) (4, sv, t, 0, a, b, c))
          obtain ⟨⟨c0, c1, c2, c3, c4, c5, c6⟩, _⟩ := row7_atF HC.out
          obtain ⟨⟨r0, r1, r2, r3, r4, r5, r6⟩, f0, f1, f2, f3, f4, f5, f6⟩ := row7_atF HR.out
          have g9 : (1000 : Int) ≤ s.v := by omega
          clear HK hv
          go_wp2
          exact pld_fin HR.out HB.out _ _ _ _ _ _ _ _ _ HP.out (by rfl) (by rfl)
        have g9 : ¬ (1000 : Int) ≤ s.v := by omega
        obtain ⟨⟨_, _, _, _, _, _, s6, _, _⟩, _⟩ := row9_at HS.out
        obtain ⟨⟨c0, _⟩, _⟩ := row7_atF HC.out
        have HP := Lib.hid (okp_ok (p := PL) (x := (4, sv, t, s.v + 1, a, b, c)) (by first | exact HK.out.1 hv | exact HK.out.1 (by omega) | exact HK.out.1 hv))
        have HC3 := Lib.hid (show (wc.setCell ⟨w.heap.size, 3, none⟩ (.int .i64 (s.v + 1))).heap[w.heap.size]? = some (cBox 4 sv t (s.v + 1) a b c) from heap_setCell_same wc w.heap.size 3 _ _ (.int .i64 (s.v + 1)) HC.out)
        have HR3 := Lib.hid (show (wc.setCell ⟨w.heap.size, 3, none⟩ (.int .i64 (s.v + 1))).heap[w.heap.size + 1 + 1]? = some (cBox 0 0 0 0 0 0 0) from (heap_setCell_other _ _ _ _ (show w.heap.size + 1 + 1 ≠ w.heap.size by omega)).trans HR.out)
        have HB3 := Lib.hid (HB.out.setCell (p := ⟨w.heap.size, 3, none⟩) (Nat.le_refl _) (.int .i64 (s.v + 1)))
        obtain ⟨⟨_, _, _, c3, _, _, _⟩, _, _, _, g3, _, _, _⟩ := row7_atF HC.out
        obtain ⟨⟨d0, d1, d2, d3, d4, d5, d6⟩, _⟩ := row7_atF HC3.out
        obtain ⟨⟨e0, e1, e2, e3, e4, e5, e6⟩, h0, h1, h2, h3, h4, h5, h6⟩ := row7_atF HR3.out
        clear HK hv
        go_wp2
        exact pld_fin HR3.out HB3.out _ _ _ _ _ _ _ _ _ HP.out (by rfl) (by rfl)

end Go.Proofs.YteiicflodobpnaaGreatDoor
