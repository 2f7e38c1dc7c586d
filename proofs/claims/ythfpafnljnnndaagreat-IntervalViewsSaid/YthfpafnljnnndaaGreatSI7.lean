/-
  The law IntervalSpan: it returns true. Conditions: the list of numbers reads.
  The law IntervalViews: it returns true. Conditions: what came in reads.
-/
import Derived.Test.YthfpafnljnnndaaGreatSI6
import Derived.Test.YthfpafnljnnndaaGreatSI5
namespace Go.Proofs.YthfpafnljnnndaaGreat
open Go.RowKit Go.Joins Go.Shelf
open JM (Chg)
open CM (Fp)
open MM (Mem Ent Sm Tri)

namespace IM
theorem span_mem (ms : List Mem) (k c f : Int) (fa fb : List Fp) (x : Int) : x ∈ span ms k c f fa fb ↔ ∃ g ∈ all fa fb, x ∈ (vwOf ms k c f g).1.map (·.1) := by
  rw [show x ∈ span ms k c f fa fb ↔ x ∈ servers (views ms k c f fa fb) from (compact_spec _).2 x]
  unfold servers views
  rw [List.mem_flatMap]
  constructor
  · rintro ⟨v, hv, hx⟩
    obtain ⟨g, hg, rfl⟩ := List.mem_map.1 hv
    exact ⟨g, hg, hx⟩
  · rintro ⟨g, hg, hx⟩
    exact ⟨_, List.mem_map.2 ⟨g, hg, rfl⟩, hx⟩
theorem span_asc (ms : List Mem) (k c f : Int) (fa fb : List Fp) : MM.asc (span ms k c f fa fb) = true := MM.asc_iff.2 (compact_spec _).1
theorem span_len {ms : List Mem} {k c f : Int} {fa fb : List Fp} (hg : MM.errG k c f ms = 0) (o1 : CM.Ok fa) (o2 : CM.Ok fb) : (span ms k c f fa fb).length ≤ 1000000 := by
  obtain ⟨h1, h2⟩ := views_len (fa := fa) (fb := fb) hg o1 o2
  have := servers_len h2
  unfold span
  rw [← sp_eq]
  exact sp_len _ (by omega)
theorem gen_len {ms : List Mem} {k c f : Int} (hg : MM.errG k c f ms = 0) : ms.length ≤ 12 := by
  obtain ⟨g1, g2, _⟩ := MM.errG_zero hg
  have ok := MM.okS_ini (c := c) (f := f) g1 g2
  have := srt_twelve ok.j ok.js
  have e : (MM.ini ms k c f).J = ms.map (·.1) := rfl
  rwa [e, List.length_map] at this
/-- A smaller interval has a smaller span. -/
theorem span_sub {ms : List Mem} {k c f : Int} {fa fm fb : List Fp} (o1 : CM.Ok fa) (om : CM.Ok fm) (o2 : CM.Ok fb) (h1 : CM.cons fm fa = true) (h2 : CM.cons fb fm = true) :
    (∀ x ∈ span ms k c f fm fb, (span ms k c f fa fb).contains x = true) ∧ ∀ m ∈ (vwOf ms k c f fm).1, (span ms k c f fa fb).contains m.1 = true ∧ (span ms k c f fm fb).contains m.1 = true := by
  have hin : ∀ g ∈ all fm fb, g ∈ all fa fb := fun g hg => by
    obtain ⟨og, a, b⟩ := all_within om o2 g hg
    exact (all_iff o1 o2 g og).2 ⟨CM.cons_iff.2 fun x hx => CM.cons_iff.1 a x (CM.cons_iff.1 h1 x hx), b⟩
  have hself : fm ∈ all fm fb := (all_iff om o2 fm om).2 ⟨CM.cons_iff.2 fun _ h => h, h2⟩
  refine ⟨fun x hx => ?_, fun m hm => ?_⟩
  · obtain ⟨g, hg, hx⟩ := (span_mem ms k c f fm fb x).1 hx
    exact List.contains_iff_mem.2 ((span_mem ms k c f fa fb x).2 ⟨g, hin g hg, hx⟩)
  · have hx : m.1 ∈ (vwOf ms k c f fm).1.map (·.1) := List.mem_map.2 ⟨m, hm, rfl⟩
    exact ⟨List.contains_iff_mem.2 ((span_mem ms k c f fa fb _).2 ⟨fm, hin _ hself, hx⟩), List.contains_iff_mem.2 ((span_mem ms k c f fm fb _).2 ⟨fm, hself, hx⟩)⟩
end IM

set_option maxRecDepth 100000 in
set_option maxHeartbeats 4000000 in
theorem lIntervalSpan (n : Int) (v : Value) (l : List Int) (x y z : Int) (w : World) (h : RdI w v l) (hl : l.length ≤ 4611686018427387904) :
    Calls Tryz.prog 8 #[.int .i64 n, v, .int .i64 x, .int .i64 y, .int .i64 z] w fun e w' => e = .returned (.bool true) ∧ Below w.heap.size w w' := by
  have HG := Lib.hid (kGenesis n w)
  have HP := Lib.hid (fun w' (hb : Below w.heap.size w w') => kPool v l w' (h.below hb) hl)
  have HAW := Lib.hid (fun w => cAwake9 w)
  obtain ⟨ad, cp, rfl, _, _⟩ := h.shape
  clear h hl
  go_enter Tryz.func8, Tryz.ntmps8
  go_wp2_with fail
  refine HG.out.mono ?_
  rintro e w0 ⟨ug, gk, gc, gf, ms, rfl, hm0, hg0, hb0⟩
  obtain ⟨ma, mc, hum, _, _⟩ := hm0.shape
  have HGZ := Lib.hid hg0
  have HM0 := Lib.hid hm0
  have HB0 := Lib.hid hb0
  subst hum
  obtain ⟨mn, hmn⟩ : ∃ mn, mn = ms.length := ⟨_, rfl⟩
  rw [← hmn] at HM0 ⊢
  have HMN := Lib.hid hmn
  clear hm0 hg0 hb0 HG hmn
  go_wp2_with fail
  refine (HP.out w0 HB0.out).mono ?_
  rintro e w1 ⟨u, p, rfl, hr1, hok, hb1⟩
  obtain ⟨ua, uc, hu, _, _⟩ := hr1.shape
  subst hu
  obtain ⟨wg, hwg, hBg, hGg⟩ : ∃ wg, w1.alloc (.cells #[.slice ma mn mc, .int .i64 gk, .int .i64 gc, .int .i64 gf] 35) = wg ∧ Below w1.heap.size w1 wg ∧ wg.heap[w1.heap.size]? = some (.cells #[.slice ma mn mc, .int .i64 gk, .int .i64 gc, .int .i64 gf] 35 (0, 0)) :=
    ⟨_, rfl, below_fresh _ _, heap_alloc_new _ _⟩
  have HWG := Lib.hid hwg
  have HBG := Lib.hid (bnext HB0.out (bnext hb1 hBg))
  have HGG := Lib.hid hGg
  have HM := Lib.hid (HM0.out.below (bnext hb1 hBg))
  have HOK := Lib.hid hok
  have HPT := Lib.hid (kPart _ p y wg (hr1.below hBg) (by have := hok.nine; omega))
  generalize p.length = pl at *
  clear hr1 hok hb1 HP hwg hBg hGg HM0 HB0
  go_upto_region 2 with fail
  rw [HWG.out]
  generalize w1.heap.size = G at *
  clear HWG
  go_wp2_with fail
  refine HPT.out.mono ?_
  rintro e w2 ⟨u2, g2, rfl, hr2, hb2⟩
  have o2 := HOK.out.rs g2
  have HPF := Lib.hid (kPart u2 _ x w2 hr2 (by have := o2.nine; omega))
  have HPZ := Lib.hid (fun w' (hb : Below w2.heap.size w2 w') => kPart u2 _ z w' (hr2.below hb) (by have := o2.nine; omega))
  obtain ⟨a2, c2, hu2, _, _⟩ := hr2.shape
  have HFB := Lib.hid hr2
  have HB2 := Lib.hid hb2
  have HO2 := Lib.hid o2
  subst hu2
  clear hr2 hb2 HPT o2 HOK
  generalize CM.rs p g2 = fb at *
  generalize fb.length = lb at *
  go_wp2_with fail
  refine HPF.out.mono ?_
  rintro e w3 ⟨u3, g3, rfl, hr3, hb3⟩
  obtain ⟨a3, c3, hu3, _, _⟩ := hr3.shape
  have HFA := Lib.hid hr3
  have HB3 := Lib.hid hb3
  subst hu3
  generalize hla : (CM.rs fb g3).length = la at *
  clear hr3 hb3 HPF hla
  go_wp2_with fail
  refine (HPZ.out w3 HB3.out).mono ?_
  rintro e w4 ⟨u4, g4, rfl, hr4, hb4⟩
  have o2 := HO2.out
  have hun := rUnion _ _ _ _ w4 (HFA.out.below hb4) hr4 (by have := (o2.rs g3).nine; omega) (by have := (o2.rs g4).nine; omega)
  rw [CM.un_rs o2.srt] at hun
  obtain ⟨a4, c4, hu4, _, _⟩ := hr4.shape
  have HUN := Lib.hid hun
  replace HFA := Lib.hid (HFA.out.below hb4)
  have HB4 := Lib.hid (bnext HB3.out hb4)
  subst hu4
  generalize (CM.rs fb g4).length = lz at *
  clear hun hb4 hr4 HPZ
  have o1 := o2.rs g3
  have om := o2.rs (fun a => max (g3 a) (g4 a))
  have hs := IM.span_sub (ms := ms) (k := gk) (c := gc) (f := gf) o1 om o2 (CM.cons_iff.2 fun f hf => by
    obtain ⟨a, b⟩ := CM.rs_mem.1 hf
    exact CM.rs_mem.2 ⟨a, by omega⟩) (IM.cons_part _ _)
  go_wp2_with fail
  refine HUN.out.mono ?_
  rintro e w5 ⟨u5, rfl, hr5, hb5⟩
  obtain ⟨a5, c5, hu5, _, _⟩ := hr5.shape
  subst hu5
  have hB25 := bnext HB4.out hb5
  have hm5 := HM.out.below (bnext HB2.out hB25)
  have h1 := HFA.out.below hb5
  have h2 := HFB.out.below hB25
  have hG5 := below_block HGG.out (bnext HB2.out hB25)
  have hml := IM.gen_len HGZ.out
  have HS1 := Lib.hid (fun w' (hb : Below w5.heap.size w5 w') => cSpan _ _ _ gk gc gf ms _ _ w' (hm5.below hb) (h1.below hb) (h2.below hb) o1 o2 HGZ.out hml)
  have HS2 := Lib.hid (fun w' (hb : Below w5.heap.size w5 w') => cSpan _ _ _ gk gc gf ms _ _ w' (hm5.below hb) (hr5.below hb) (h2.below hb) om o2 HGZ.out hml)
  have HVO := Lib.hid (fun w' (hb : Below w5.heap.size w5 w') => rViewOf _ _ gk gc gf ms _ w' (hm5.below hb) (hr5.below hb) HGZ.out hml om)
  have hvl := IM.vw_len (k := gk) (c := gc) (f := gf) HGZ.out om
  have hsa := IM.span_asc ms gk gc gf (CM.rs fb g3) fb
  have hsl := IM.span_len (fa := CM.rs fb g3) (fb := fb) HGZ.out o1 o2
  have htl := IM.span_len (fa := CM.rs fb (fun a => max (g3 a) (g4 a))) (fb := fb) HGZ.out om o2
  have HBS := Lib.hid (bnext HBG.out (bnext HB2.out hB25))
  have HSA := Lib.hid hsa
  have HG5 := Lib.hid hG5
  have HS := Lib.hid hs
  clear hr5 hb5 hs hB25 hm5 h1 h2 hG5 hml o1 o2 om hsa HUN HFA HFB HGG HM HB2 HB3 HB4 HO2 HGZ HBG HMN
  generalize IM.span ms gk gc gf (CM.rs fb g3) fb = S at *
  generalize CM.rs fb g3 = fa at *
  generalize CM.rs fb (fun a => max (g3 a) (g4 a)) = fm at *
  generalize IM.span ms gk gc gf fm fb = T at *
  generalize IM.vwOf ms gk gc gf fm = X at *
  obtain ⟨xm, x1, x2, x3⟩ := X
  have hvl : xm.length ≤ 12 := hvl
  generalize fm.length = lm at *
  go_wp2
  refine wp_region_held_drew (S := fun w' => Below w5.heap.size w5 w') (by kernel_rfl) ((Below.refl _ _).drew) (fun ha => ?_)
  replace ha : Below w5.heap.size w5 w5.drew := (Below.refl _ _).drew
  generalize w5.drew = wa at ha ⊢
  refine takeH (i := 0) (v := ?_) rfl (by kernel_rfl) (by kernel_rfl) (by kernel_rfl) (fun _ _ _ h => h) (Or.inl ⟨by rfl, ?_⟩) (by assumption) ?_
  rotate_left
  · (intro w hSw; (try dsimp only at hSw); obtain ⟨⟨q0, q1, q2, q3⟩, _⟩ := row4_at (below_block HG5.out hSw); go_simp; first | done | with_reducible rfl)
  (try simp only [Act.put, List.setIfInBounds_toArray, List.set_cons_zero, List.set_cons_succ])
  refine takeH (i := 1) (v := ?_) rfl (by kernel_rfl) (by kernel_rfl) (by kernel_rfl) (fun _ _ _ h => h) (Or.inl ⟨by rfl, ?_⟩) (by assumption) ?_
  rotate_left
  · (intro w hSw; (try dsimp only at hSw); go_simp; first | done | with_reducible rfl)
  (try simp only [Act.put, List.setIfInBounds_toArray, List.set_cons_zero, List.set_cons_succ])
  refine takeH (i := 2) (v := ?_) rfl (by kernel_rfl) (by kernel_rfl) (by kernel_rfl) (fun _ _ _ h => h) (Or.inl ⟨by rfl, ?_⟩) (by assumption) ?_
  rotate_left
  · (intro w hSw; (try dsimp only at hSw); go_simp; first | done | with_reducible rfl)
  (try simp only [Act.put, List.setIfInBounds_toArray, List.set_cons_zero, List.set_cons_succ])
  refine takeH (i := 4) (v := ?_) rfl (by kernel_rfl) (by kernel_rfl) (by kernel_rfl) (fun _ _ _ h => h) (Or.inl ⟨by rfl, ?_⟩) (by assumption) ?_
  rotate_left
  · (intro w hSw; (try dsimp only at hSw); obtain ⟨⟨q0, q1, q2, q3⟩, _⟩ := row4_at (below_block HG5.out hSw); go_simp; first | done | with_reducible rfl)
  (try simp only [Act.put, List.setIfInBounds_toArray, List.set_cons_zero, List.set_cons_succ])
  refine takeH (i := 5) (v := ?_) rfl (by kernel_rfl) (by kernel_rfl) (by kernel_rfl) (fun _ _ _ h => h) (Or.inl ⟨by rfl, ?_⟩) (by assumption) ?_
  rotate_left
  · (intro w hSw; (try dsimp only at hSw); go_simp; first | done | with_reducible rfl)
  (try simp only [Act.put, List.setIfInBounds_toArray, List.set_cons_zero, List.set_cons_succ])
  refine takeH (i := 6) (v := ?_) rfl (by kernel_rfl) (by kernel_rfl) (by kernel_rfl) (fun _ _ _ h => h) (Or.inl ⟨by rfl, ?_⟩) (by assumption) ?_
  rotate_left
  · (intro w hSw; (try dsimp only at hSw); go_simp; first | done | with_reducible rfl)
  (try simp only [Act.put, List.setIfInBounds_toArray, List.set_cons_zero, List.set_cons_succ])
  refine wpAnyH_ready (rs := [3]) (by kernel_rfl) (by simp) ?_
  refine stepH rfl (fun K hK => ?_) AllReadyH.nil
  go_simp
  refine (HS1.out wa ha).mono ?_
  rintro e wb ⟨vs, rfl, hrs, hq⟩
  obtain ⟨sa, sc, hvs, _, _⟩ := hrs.shape
  subst hvs
  have hb := bnext ha hq
  go_wp2_with fail
  refine hK.out _ _ (hb) (fun _ => ?_)
  clear hK K
  (try simp only [Act.put, List.setIfInBounds_toArray, List.set_cons_zero, List.set_cons_succ])
  refine wpAnyH_ready (rs := [7]) (by kernel_rfl) (by simp) ?_
  refine stepH rfl (fun K hK => ?_) AllReadyH.nil
  go_simp
  refine (HS2.out wb hb).mono ?_
  rintro e wc ⟨vt, rfl, hrt, hq⟩
  obtain ⟨ta, tc, hvt, _, _⟩ := hrt.shape
  subst hvt
  replace hrs := hrs.below hq
  have hc := bnext hb hq
  go_wp2_with fail
  refine hK.out _ _ (hc) (fun _ => ?_)
  clear hK K
  (try simp only [Act.put, List.setIfInBounds_toArray, List.set_cons_zero, List.set_cons_succ])
  refine takeH (i := 8) (v := ?_) rfl (by kernel_rfl) (by kernel_rfl) (by kernel_rfl) (fun _ _ _ h => h) (Or.inl ⟨by rfl, ?_⟩) (by assumption) ?_
  rotate_left
  · (intro w hSw; (try dsimp only at hSw); go_simp; first | done | with_reducible rfl)
  (try simp only [Act.put, List.setIfInBounds_toArray, List.set_cons_zero, List.set_cons_succ])
  refine takeH (i := 9) (v := ?_) rfl (by kernel_rfl) (by kernel_rfl) (by kernel_rfl) (fun _ _ _ h => h) (Or.inl ⟨by rfl, ?_⟩) (by assumption) ?_
  rotate_left
  · (intro w hSw; (try dsimp only at hSw); go_simp; first | done | with_reducible rfl)
  (try simp only [Act.put, List.setIfInBounds_toArray, List.set_cons_zero, List.set_cons_succ])
  refine wpAnyH_done (by kernel_rfl) ?_ _
  have HC := Lib.hid hc
  have HRS := Lib.hid hrs
  have HRT := Lib.hid hrt
  clear ha hb hc hrs hrt HS1 HS2
  go_wp2
  go_loopw [18] (fun ix wr => ∃ i : Nat, i ≤ T.length ∧ ix = .int .i64 i ∧ Hid (Below wc.heap.size wc wr)) (fun ix _ => T.length - (intOf ix).toNat)
  case atStart => exact ⟨0, Nat.zero_le _, rfl, Lib.hid (Below.refl _ _)⟩
  case round =>
    obtain ⟨i, hii, rfl, hbw⟩ := hrel
    by_cases hlt : i < T.length
    · have hq2 : (i : Int) < (T.length : Int) := by omega
      have hat := List.getElem?_eq_getElem hlt
      generalize T[i] = s at hat
      obtain ⟨b3, o3, hi3, hb3, d0⟩ := atI (HRT.out.below hbw.out) i s hat
      have hin := rIn _ S s wr (HRS.out.below hbw.out)
      rw [HS.out.1 s (List.mem_of_getElem? hat)] at hin
      have HIN := Lib.hid hin
      have HBW := hbw
      clear hat hin hbw
      go_wp2_with fail
      refine HIN.out.mono ?_
      rintro e w7 ⟨rfl, hb7⟩
      have HB7 := Lib.hid (bnext HBW.out hb7)
      clear hb7 HIN d0 hi3 hb3
      go_wp2
      go_roundw
      case rel => exact ⟨i + 1, by omega, by go_num, HB7⟩
      case measure => simp [intOf]; omega
    have hq2 : ¬ ((i : Int) < (T.length : Int)) := by omega
    obtain ⟨wo, hwo⟩ : ∃ wo, wo = wr := ⟨_, rfl⟩
    rw [← hwo] at hbw ⊢
    clear hwo hii hlt
    have HBW := Lib.hid (bnext HC.out hbw.out)
    have HRS2 := Lib.hid (HRS.out.below hbw.out)
    have HRT2 := Lib.hid (HRT.out.below hbw.out)
    have HV := Lib.hid (HVO.out wo HBW.out)
    obtain ⟨⟨q0, q1, q2, q3⟩, _⟩ := row4_at (below_block HG5.out HBW.out)
    clear hbw HVO HRS HRT HC HG5
    go_wp2_with fail
    refine HV.out.mono ?_
    rintro e w7 ⟨sl, rfl, hm7, hb7⟩
    obtain ⟨ya, yc, hsl7, _, _⟩ := hm7.rd.shape
    have hsl7 : sl = .slice ya xm.length yc := hsl7
    subst hsl7
    obtain ⟨w8, hw8, hB8, hG8⟩ : ∃ w8, w7.alloc (.cells #[.slice ya xm.length yc, .int .i64 x1, .int .i64 x2, .int .i64 x3] 41) = w8 ∧ Below w7.heap.size w7 w8 ∧ w8.heap[w7.heap.size]? = some (.cells #[.slice ya xm.length yc, .int .i64 x1, .int .i64 x2, .int .i64 x3] 41 (0, 0)) :=
      ⟨_, rfl, below_fresh _ _, heap_alloc_new _ _⟩
    have HW8 := Lib.hid hw8
    have HG8 := Lib.hid hG8
    have HM8 := Lib.hid (show RdM w8 (.slice ya xm.length yc) xm from (hm7.below hB8).rd)
    have HRS8 := Lib.hid (HRS2.out.below (bnext hb7 hB8))
    have HRT8 := Lib.hid (HRT2.out.below (bnext hb7 hB8))
    have HB8 := Lib.hid (bnext HBW.out (bnext hb7 hB8))
    clear hm7 hb7 hw8 hB8 hG8 HBW HRS2 HRT2 HV q0 q1 q2 q3
    go_upto_region 12 with fail
    rw [HW8.out]
    generalize w7.heap.size = G2 at *
    clear HW8
    go_wp2
    go_loopw [20] (fun ix wr => ∃ i : Nat, i ≤ xm.length ∧ ix = .int .i64 i ∧ Hid (Below w8.heap.size w8 wr)) (fun ix _ => xm.length - (intOf ix).toNat)
    case atStart => exact ⟨0, Nat.zero_le _, rfl, Lib.hid (Below.refl _ _)⟩
    case round =>
      obtain ⟨i, hii, rfl, hbw⟩ := hrel
      obtain ⟨⟨z0, z1, z2, z3⟩, _⟩ := row4_at (below_block HG8.out hbw.out)
      by_cases hlt : i < xm.length
      · have hq3 : (i : Int) < (xm.length : Int) := by omega
        have hat := List.getElem?_eq_getElem hlt
        generalize xm[i] = m at hat
        obtain ⟨b3, o3, hi3, hb3, d0, d1⟩ := atM (HM8.out.below hbw.out) i m hat
        obtain ⟨m1, m2⟩ := m
        obtain ⟨e1, e2⟩ := HS.out.2 _ (List.mem_of_getElem? hat)
        have hin := rIn _ S m1 wr (HRS8.out.below hbw.out)
        rw [e1] at hin
        have hin2 := fun w' (hb : Below wr.heap.size wr w') => rIn _ T m1 w' (HRT8.out.below (bnext hbw.out hb))
        rw [e2] at hin2
        have HIN := Lib.hid hin
        have HIN2 := Lib.hid hin2
        have HBW := hbw
        have HI3 := Lib.hid hi3
        have HD0 := Lib.hid (show ∀ w', Below wr.heap.size wr w' → w'.cell? ⟨b3, o3, none⟩ = some (.int .i64 m1) from fun w' hb => below_cell hb d0)
        clear hat hin hin2 hbw e1 e2
        go_wp2_with fail
        refine HIN.out.mono ?_
        rintro e w9 ⟨rfl, hb9⟩
        clear z0 z1 z2 z3 d0 d1 HIN hb3
        obtain ⟨⟨z0, z1, z2, z3⟩, _⟩ := row4_at (below_block HG8.out (bnext HBW.out hb9))
        have d0 := HD0.out w9 hb9
        have HI2 := Lib.hid (HIN2.out w9 hb9)
        have HB9 := Lib.hid (bnext HBW.out hb9)
        clear hb9 HIN2 HD0
        go_wp2_with fail
        refine HI2.out.mono ?_
        rintro e w10 ⟨rfl, hb10⟩
        have HB10 := Lib.hid (bnext HB9.out hb10)
        clear hb10 HI2 d0 z0 z1 z2 z3 hi3
        go_wp2
        go_roundw
        case rel => exact ⟨i + 1, by omega, by go_num, HB10⟩
        case measure => simp [intOf]; omega
      have hq3 : ¬ ((i : Int) < (xm.length : Int)) := by omega
      have has := rAsc _ S wr (HRS8.out.below hbw.out)
      rw [HSA.out] at has
      have HAS := Lib.hid has
      have HBW := Lib.hid (bnext HBS.out (bnext HB8.out hbw.out))
      clear has hbw hii hlt
      go_wp2_with fail
      refine HAS.out.mono ?_
      rintro e w9 ⟨rfl, hb9⟩
      have HB9 := Lib.hid (bnext HBW.out hb9)
      clear hb9 HAS z0 z1 z2 z3
      go_wp2_with fail
      refine (HAW.out w9).mono ?_
      rintro e w10 ⟨rfl, hb10⟩
      have HE := Lib.hid (bnext HB9.out hb10)
      go_wp2
      go_ret
      exact ⟨rfl, HE.out⟩

end Go.Proofs.YthfpafnljnnndaaGreat

namespace Go.Proofs.YthfpafnljnnndaaGreat
open Go.RowKit Go.Joins Go.Shelf
open JM (Chg)
open CM (Fp)
open MM (Mem Ent Sm Tri)

set_option maxRecDepth 100000 in
set_option maxHeartbeats 4000000 in
theorem lIntervalViews (u va vb : Value) (gk gc gf : Int) (ms : List Mem) (fa fb : List Fp) (w : World) (hu : RdM w u ms) (h1 : RdF w va fa) (h2 : RdF w vb fb) :
    Calls Tryz.prog 4 #[vw u gk gc gf, va, vb] w fun e w' => e = .returned (.bool true) ∧ Below w.heap.size w w' := by
  obtain ⟨ma, mc, rfl, _, _⟩ := hu.shape
  obtain ⟨a, ca, rfl, _, _⟩ := h1.shape
  obtain ⟨b, cb, rfl, _, _⟩ := h2.shape
  obtain ⟨w0, hw0, hB0, hG0⟩ : ∃ w0, w.alloc (.cells #[.slice ma ms.length mc, .int .i64 gk, .int .i64 gc, .int .i64 gf] 35) = w0 ∧ Below w.heap.size w w0 ∧ w0.heap[w.heap.size]? = some (.cells #[.slice ma ms.length mc, .int .i64 gk, .int .i64 gc, .int .i64 gf] 35 (0, 0)) :=
    ⟨_, rfl, below_fresh _ _, heap_alloc_new _ _⟩
  have H3 := iTwo w0 a b _ ca _ cb fa fb (h1.below hB0) (h2.below hB0)
  have hb0 := below_fresh w0 (.cells #[.slice a fa.length ca, .slice b fb.length cb] 23)
  obtain ⟨w1, hw1⟩ : ∃ w1, w0.alloc (.cells #[.slice a fa.length ca, .slice b fb.length cb] 23) = w1 := ⟨_, rfl⟩
  rw [hw1] at H3 hb0
  have HV := Lib.hid (kValidL _ [fa, fb] w1 H3)
  have HVG := Lib.hid (fun w' (hb : Below w.heap.size w w') => rValGen _ gk gc gf ms w' (hu.below hb))
  have HU := Lib.hid hu
  have HF := Lib.hid (And.intro h1 h2)
  have HB0 := Lib.hid hB0
  have HB1 := Lib.hid (bnext hB0 hb0)
  have HG0 := Lib.hid hG0
  have HG1 := Lib.hid (below_block hG0 hb0)
  have HW0 := Lib.hid hw0
  have HW1 := Lib.hid hw1
  have HAW := Lib.hid (fun w => cAwake9 w)
  clear H3 hb0 hw1 hw0 hu h1 h2 hB0 hG0
  obtain ⟨mn, hmn⟩ : ∃ mn, mn = ms.length := ⟨_, rfl⟩
  rw [← hmn] at HVG HU HG0 HG1 HW0 ⊢
  clear hmn
  generalize fa.length = la at *
  generalize fb.length = lb at *
  by_cases l1 : 30 < la
  · have q1 : (30 : Int) < (la : Int) := by omega
    clear HV HW1 HF HB1 HVG HU HG0 HG1
    go_enter Tryz.func4, Tryz.ntmps4
    go_upto_region 1 with fail
    rw [HW0.out]
    go_wp2_with fail
    refine (HAW.out w0).mono ?_
    rintro e w2 ⟨rfl, hb2⟩
    go_wp2
    go_ret
    exact ⟨rfl, bnext HB0.out hb2⟩
  have q1 : ¬ (30 : Int) < (la : Int) := by omega
  by_cases l2 : 30 < lb
  · have q2 : (30 : Int) < (lb : Int) := by omega
    clear HV HW1 HF HB1 HVG HU HG0 HG1
    go_enter Tryz.func4, Tryz.ntmps4
    go_upto_region 1 with fail
    rw [HW0.out]
    go_wp2_with fail
    refine (HAW.out w0).mono ?_
    rintro e w2 ⟨rfl, hb2⟩
    go_wp2
    go_ret
    exact ⟨rfl, bnext HB0.out hb2⟩
  have q2 : ¬ (30 : Int) < (lb : Int) := by omega
  go_enter Tryz.func4, Tryz.ntmps4
  go_upto_region 1 with fail
  rw [HW0.out]
  go_wp2_with fail
  rw [HW1.out]
  refine HV.out.mono ?_
  rintro e w2 ⟨B, rfl, hB, hb2⟩
  have HB2 := Lib.hid (bnext HB1.out hb2)
  have HG2 := Lib.hid (below_block HG1.out hb2)
  have HK := Lib.hid hB
  clear hB hb2 HV HW1 HW0 HB0 HB1 HG0 HG1 q1 q2 l1 l2
  cases B
  · go_wp2_with fail
    refine (HAW.out w2).mono ?_
    rintro e w3 ⟨rfl, hb3⟩
    go_wp2
    go_ret
    exact ⟨rfl, bnext HB2.out hb3⟩
  obtain ⟨hok, hag⟩ := HK.out rfl
  have o1 : CM.Ok fa := hok fa (by simp)
  have o2 : CM.Ok fb := hok fb (by simp)
  have g10 : CM.Agr fb fa := hag 1 0 fb fa rfl rfl (by decide)
  have HV := Lib.hid (HVG.out w2 HB2.out)
  obtain ⟨⟨q0, q1, q2, q3⟩, _⟩ := row4_at HG2.out
  obtain ⟨E, hE⟩ : ∃ E, E = MM.errG gk gc gf ms := ⟨_, rfl⟩
  rw [← hE] at HV
  clear hok hag HK HVG
  by_cases he : E = 0
  case neg =>
    have h1 : (E != 0) = true := by simpa using he
    clear he hE o1 o2 g10 HF HU
    go_wp2_with fail
    refine HV.out.mono ?_
    rintro e w3 ⟨rfl, hb3⟩
    have HB3 := Lib.hid (bnext HB2.out hb3)
    clear hb3 q0 q1 q2 q3
    go_wp2_with fail
    refine (HAW.out w3).mono ?_
    rintro e w4 ⟨rfl, hb4⟩
    go_wp2
    go_ret
    exact ⟨rfl, bnext HB3.out hb4⟩
  subst he
  have hgz : MM.errG gk gc gf ms = 0 := hE.symm
  have hml := IM.gen_len hgz
  clear hE
  go_wp2_with fail
  refine HV.out.mono ?_
  rintro e w3 ⟨rfl, hb3⟩
  have hb23 := bnext HB2.out hb3
  have hm3 := HU.out.below hb23
  have h1 := HF.out.1.below hb23
  have h2 := HF.out.2.below hb23
  have HG3 := Lib.hid (below_block HG2.out hb3)
  have HB3 := Lib.hid hb23
  have HRA := Lib.hid (fun w' (hb : Below w3.heap.size w3 w') => rAll _ _ fa fb w' (h1.below hb) (h2.below hb) o1 o2 g10)
  have HCV := Lib.hid (fun w' (hb : Below w3.heap.size w3 w') => cViews _ _ _ gk gc gf ms fa fb w' (hm3.below hb) (h1.below hb) (h2.below hb) o1 o2 hgz hml)
  have HS1 := Lib.hid (fun w' (hb : Below w3.heap.size w3 w') => cSpan _ _ _ gk gc gf ms fa fb w' (hm3.below hb) (h1.below hb) (h2.below hb) o1 o2 hgz hml)
  have HS2 := Lib.hid (fun w' (hb : Below w3.heap.size w3 w') => rSpanI _ _ _ gk gc gf ms fa fb w' (hm3.below hb) (h1.below hb) (h2.below hb) o1 o2 g10 hgz hml)
  have HOK := Lib.hid (fun x hx => (IM.all_within o1 o2 x hx).1)
  have HVO := Lib.hid (fun x f w' (hb : Below w3.heap.size w3 w') (hx : RdF w' x f) (of : CM.Ok f) => rViewOf _ x gk gc gf ms f w' (hm3.below hb) hx hgz hml of)
  have hl9 : (IM.all fa fb).length ≤ 1000 := by rw [IM.iv_len]; exact (IM.iv_ok o1 o2).2
  have hvw : IM.views ms gk gc gf fa fb = (IM.all fa fb).map (IM.vwOf ms gk gc gf) := rfl
  rw [hvw] at HCV
  clear hb3 hb23 hm3 h1 h2 HV HU HF HB2 HG2 o1 o2 g10 hgz hml hvw q0 q1 q2 q3
  generalize IM.all fa fb = L at *
  generalize IM.span ms gk gc gf fa fb = S at *
  generalize IM.vwOf ms gk gc gf = F at *
  have HEI := Lib.hid (fun (u v : Value) w' (h1 : RdI w' u S) (h2 : RdI w' v S) => by
    have := rEqInts u v S S w' h1 h2
    rw [decide_eq_true rfl] at this
    exact this)
  go_wp2
  refine wp_region_held_drew (S := fun w' => Below w3.heap.size w3 w') (by kernel_rfl) ((Below.refl _ _).drew) (fun ha => ?_)
  replace ha : Below w3.heap.size w3 w3.drew := (Below.refl _ _).drew
  generalize w3.drew = wa at ha ⊢
  refine takeH (i := 0) (v := ?_) rfl (by kernel_rfl) (by kernel_rfl) (by kernel_rfl) (fun _ _ _ h => h) (Or.inl ⟨by rfl, ?_⟩) (by assumption) ?_
  rotate_left
  · (intro w hSw; (try dsimp only at hSw); go_simp; first | done | with_reducible rfl)
  (try simp only [Act.put, List.setIfInBounds_toArray, List.set_cons_zero, List.set_cons_succ])
  refine takeH (i := 1) (v := ?_) rfl (by kernel_rfl) (by kernel_rfl) (by kernel_rfl) (fun _ _ _ h => h) (Or.inl ⟨by rfl, ?_⟩) (by assumption) ?_
  rotate_left
  · (intro w hSw; (try dsimp only at hSw); go_simp; first | done | with_reducible rfl)
  (try simp only [Act.put, List.setIfInBounds_toArray, List.set_cons_zero, List.set_cons_succ])
  refine takeH (i := 3) (v := ?_) rfl (by kernel_rfl) (by kernel_rfl) (by kernel_rfl) (fun _ _ _ h => h) (Or.inl ⟨by rfl, ?_⟩) (by assumption) ?_
  rotate_left
  · (intro w hSw; (try dsimp only at hSw); obtain ⟨⟨q0, q1, q2, q3⟩, _⟩ := row4_at (below_block HG3.out hSw); go_simp; first | done | with_reducible rfl)
  (try simp only [Act.put, List.setIfInBounds_toArray, List.set_cons_zero, List.set_cons_succ])
  refine takeH (i := 4) (v := ?_) rfl (by kernel_rfl) (by kernel_rfl) (by kernel_rfl) (fun _ _ _ h => h) (Or.inl ⟨by rfl, ?_⟩) (by assumption) ?_
  rotate_left
  · (intro w hSw; (try dsimp only at hSw); go_simp; first | done | with_reducible rfl)
  (try simp only [Act.put, List.setIfInBounds_toArray, List.set_cons_zero, List.set_cons_succ])
  refine takeH (i := 5) (v := ?_) rfl (by kernel_rfl) (by kernel_rfl) (by kernel_rfl) (fun _ _ _ h => h) (Or.inl ⟨by rfl, ?_⟩) (by assumption) ?_
  rotate_left
  · (intro w hSw; (try dsimp only at hSw); go_simp; first | done | with_reducible rfl)
  (try simp only [Act.put, List.setIfInBounds_toArray, List.set_cons_zero, List.set_cons_succ])
  refine wpAnyH_ready (rs := [2]) (by kernel_rfl) (by simp) ?_
  refine stepH rfl (fun K hK => ?_) AllReadyH.nil
  go_simp
  refine (HRA.out wa ha).mono ?_
  rintro e wb ⟨v1, rfl, hr1, hq⟩
  have hr1 := hr1.rd.imp (fun u x h => h.rd hq)
  obtain ⟨a1, c1, hv1, _, _⟩ := hr1.shape
  subst hv1
  have hb := bnext ha hq
  go_wp2_with fail
  refine hK.out _ _ (hb) (fun _ => ?_)
  clear hK K
  (try simp only [Act.put, List.setIfInBounds_toArray, List.set_cons_zero, List.set_cons_succ])
  refine wpAnyH_ready (rs := [6]) (by kernel_rfl) (by simp) ?_
  refine stepH rfl (fun K hK => ?_) AllReadyH.nil
  go_simp
  refine (HCV.out wb hb).mono ?_
  rintro e wc ⟨v2, rfl, hr2, hq⟩
  obtain ⟨a2, c2, hv2, _, _⟩ := hr2.shape
  rw [List.length_map] at hv2
  subst hv2
  replace hr1 := hr1.below hq (fun u x h => h.below hq)
  have hc := bnext hb hq
  go_wp2_with fail
  refine hK.out _ _ (hc) (fun _ => ?_)
  clear hK K
  (try simp only [Act.put, List.setIfInBounds_toArray, List.set_cons_zero, List.set_cons_succ])
  refine takeH (i := 7) (v := ?_) rfl (by kernel_rfl) (by kernel_rfl) (by kernel_rfl) (fun _ _ _ h => h) (Or.inl ⟨by rfl, ?_⟩) (by assumption) ?_
  rotate_left
  · (intro w hSw; (try dsimp only at hSw); go_simp; first | done | with_reducible rfl)
  (try simp only [Act.put, List.setIfInBounds_toArray, List.set_cons_zero, List.set_cons_succ])
  refine takeH (i := 8) (v := ?_) rfl (by kernel_rfl) (by kernel_rfl) (by kernel_rfl) (fun _ _ _ h => h) (Or.inl ⟨by rfl, ?_⟩) (by assumption) ?_
  rotate_left
  · (intro w hSw; (try dsimp only at hSw); go_simp; first | done | with_reducible rfl)
  (try simp only [Act.put, List.setIfInBounds_toArray, List.set_cons_zero, List.set_cons_succ])
  refine wpAnyH_done (by kernel_rfl) ?_ _
  have HC := Lib.hid hc
  have HR1 := Lib.hid hr1
  have HR2 := Lib.hid hr2
  have hnn : ((L.length : Int) != (L.length : Int)) = false := by simp
  clear ha hb hc hr1 hr2 HRA HCV
  go_wp2
  clear hnn
  go_loopw [9] (fun ix wr => ∃ i : Nat, i ≤ L.length ∧ ix = .int .i64 i ∧ Hid (Below wc.heap.size wc wr)) (fun ix _ => L.length - (intOf ix).toNat)
  case atStart => exact ⟨0, Nat.zero_le _, rfl, Lib.hid (Below.refl _ _)⟩
  case round =>
    obtain ⟨i, hii, rfl, hbw⟩ := hrel
    by_cases hlt : i < L.length
    · have hq2 : (i : Int) < (L.length : Int) := by omega
      have hat := List.getElem?_eq_getElem hlt
      generalize L[i] = x at hat
      have hat2 : (L.map F)[i]? = some (F x) := by rw [List.getElem?_map, hat]; rfl
      obtain ⟨xb, xo, xad, xl, xcp, hix, hxb, hxc, hxo⟩ := HR1.out.at_ cfgE i x hat
      have HVX := Lib.hid (fun w' (hb : Below wr.heap.size wr w') => HVO.out _ x w' (bnext HC.out (bnext hbw.out hb)) (hxo.below (bnext hbw.out hb)) (HOK.out x (List.mem_of_getElem? hat)))
      generalize F x = X at hat2 HVX
      obtain ⟨xm, x1, x2, x3⟩ := X
      obtain ⟨yb, yo, yad, yl, ycp, hiy, hyb, c0, c1, c2, c3, hyo⟩ := HR2.out.at_ i xm x1 x2 x3 hat2
      have HIX := Lib.hid hix
      have HIY := Lib.hid hiy
      have HXC := Lib.hid (show ∀ w', Below wr.heap.size wr w' → w'.cell? ⟨xb, xo, none⟩ = some (.slice xad xl xcp) from fun w' hb => below_cell (bnext hbw.out hb) hxc)
      have HYC := Lib.hid (show ∀ w', Below wr.heap.size wr w' → w'.cell? ⟨yb, yo, none⟩ = some (.slice yad yl ycp) ∧ w'.cell? ⟨yb, yo + 1, none⟩ = some (.int .i64 x1) ∧ w'.cell? ⟨yb, yo + 2, none⟩ = some (.int .i64 x2) ∧ w'.cell? ⟨yb, yo + 3, none⟩ = some (.int .i64 x3) from
        fun w' hb => ⟨below_cell (bnext hbw.out hb) c0, below_cell (bnext hbw.out hb) c1, below_cell (bnext hbw.out hb) c2, below_cell (bnext hbw.out hb) c3⟩)
      have HEV := Lib.hid (fun sl w' (hb : Below wr.heap.size wr w') (hm : RdM w' sl xm) => by
        have := rEqView (.slice yad yl ycp) sl xm xm x1 x2 x3 x1 x2 x3 w' (hyo.below (bnext hbw.out hb)).rd hm
        rw [decide_eq_true ⟨rfl, rfl, rfl, rfl⟩] at this
        exact this)
      have HGr := Lib.hid (below_block HG3.out (bnext HC.out hbw.out))
      have HBW := hbw
      clear hat hat2 hix hxc hxo hiy hyb c0 c1 c2 c3 hyo hbw hxb
      go_wp2
      refine wp_region_held_drew (S := fun w' => Below wr.heap.size wr w') (by kernel_rfl) ((Below.refl _ _).drew) (fun ha => ?_)
      replace ha : Below wr.heap.size wr wr.drew := (Below.refl _ _).drew
      generalize wr.drew = wa at ha ⊢
      refine takeH (i := 0) (v := ?_) rfl (by kernel_rfl) (by kernel_rfl) (by kernel_rfl) (fun _ _ _ h => h) (Or.inl ⟨by rfl, ?_⟩) (by assumption) ?_
      rotate_left
      · (intro w hSw; (try dsimp only at hSw); go_simp; first | done | with_reducible rfl)
      (try simp only [Act.put, List.setIfInBounds_toArray, List.set_cons_zero, List.set_cons_succ])
      refine takeH (i := 1) (v := ?_) rfl (by kernel_rfl) (by kernel_rfl) (by kernel_rfl) (fun _ _ _ h => h) (Or.inl ⟨by rfl, ?_⟩) (by assumption) ?_
      rotate_left
      · (intro w hSw; (try dsimp only at hSw); go_simp; first | done | with_reducible rfl)
      (try simp only [Act.put, List.setIfInBounds_toArray, List.set_cons_zero, List.set_cons_succ])
      refine takeH (i := 2) (v := ?_) rfl (by kernel_rfl) (by kernel_rfl) (by kernel_rfl) (fun _ _ _ h => h) (Or.inl ⟨by rfl, ?_⟩) (by assumption) ?_
      rotate_left
      · (intro w hSw; (try dsimp only at hSw); have hiy := HIY.out; go_simp; first | done | with_reducible rfl)
      (try simp only [Act.put, List.setIfInBounds_toArray, List.set_cons_zero, List.set_cons_succ])
      refine takeH (i := 3) (v := ?_) rfl (by kernel_rfl) (by kernel_rfl) (by kernel_rfl) (fun _ _ _ h => h) (Or.inl ⟨by rfl, ?_⟩) (by assumption) ?_
      rotate_left
      · (intro w hSw; (try dsimp only at hSw); obtain ⟨c0, c1, c2, c3⟩ := HYC.out _ hSw; go_simp; first | done | with_reducible rfl)
      (try simp only [Act.put, List.setIfInBounds_toArray, List.set_cons_zero, List.set_cons_succ])
      refine takeH (i := 4) (v := ?_) rfl (by kernel_rfl) (by kernel_rfl) (by kernel_rfl) (fun _ _ _ h => h) (Or.inl ⟨by rfl, ?_⟩) (by assumption) ?_
      rotate_left
      · (intro w hSw; (try dsimp only at hSw); obtain ⟨⟨q0, q1, q2, q3⟩, _⟩ := row4_at (below_block HGr.out hSw); go_simp; first | done | with_reducible rfl)
      (try simp only [Act.put, List.setIfInBounds_toArray, List.set_cons_zero, List.set_cons_succ])
      refine takeH (i := 5) (v := ?_) rfl (by kernel_rfl) (by kernel_rfl) (by kernel_rfl) (fun _ _ _ h => h) (Or.inl ⟨by rfl, ?_⟩) (by assumption) ?_
      rotate_left
      · (intro w hSw; (try dsimp only at hSw); go_simp; first | done | with_reducible rfl)
      (try simp only [Act.put, List.setIfInBounds_toArray, List.set_cons_zero, List.set_cons_succ])
      refine takeH (i := 6) (v := ?_) rfl (by kernel_rfl) (by kernel_rfl) (by kernel_rfl) (fun _ _ _ h => h) (Or.inl ⟨by rfl, ?_⟩) (by assumption) ?_
      rotate_left
      · (intro w hSw; (try dsimp only at hSw); go_simp; first | done | with_reducible rfl)
      (try simp only [Act.put, List.setIfInBounds_toArray, List.set_cons_zero, List.set_cons_succ])
      refine takeH (i := 7) (v := ?_) rfl (by kernel_rfl) (by kernel_rfl) (by kernel_rfl) (fun _ _ _ h => h) (Or.inl ⟨by rfl, ?_⟩) (by assumption) ?_
      rotate_left
      · (intro w hSw; (try dsimp only at hSw); have hix := HIX.out; go_simp; first | done | with_reducible rfl)
      (try simp only [Act.put, List.setIfInBounds_toArray, List.set_cons_zero, List.set_cons_succ])
      refine takeH (i := 8) (v := ?_) rfl (by kernel_rfl) (by kernel_rfl) (by kernel_rfl) (fun _ _ _ h => h) (Or.inl ⟨by rfl, ?_⟩) (by assumption) ?_
      rotate_left
      · (intro w hSw; (try dsimp only at hSw); have hxc := HXC.out _ hSw; go_simp; first | done | with_reducible rfl)
      (try simp only [Act.put, List.setIfInBounds_toArray, List.set_cons_zero, List.set_cons_succ])
      refine wpAnyH_ready (rs := [9]) (by kernel_rfl) (by simp) ?_
      refine stepH rfl (fun K hK => ?_) AllReadyH.nil
      go_simp
      refine (HVX.out wa ha).mono ?_
      rintro e wb ⟨sl, rfl, hm, hq⟩
      obtain ⟨sa, sc, hsl, _, _⟩ := hm.rd.shape
      have HE := Lib.hid (HEV.out sl wb (bnext ha hq) hm.rd)
      subst hsl
      clear hm
      have hb := bnext ha hq
      go_wp2_with fail
      refine hK.out _ _ (hb) (fun _ => ?_)
      clear hK K
      (try simp only [Act.put, List.setIfInBounds_toArray, List.set_cons_zero, List.set_cons_succ])
      refine wpAnyH_ready (rs := [10]) (by kernel_rfl) (by simp) ?_
      refine stepH rfl (fun K hK => ?_) AllReadyH.nil
      go_simp
      refine HE.out.mono ?_
      rintro e wd ⟨rfl, hq⟩
      have hc := bnext hb hq
      go_wp2_with fail
      refine hK.out _ _ (hc) (fun _ => ?_)
      clear hK K
      (try simp only [Act.put, List.setIfInBounds_toArray, List.set_cons_zero, List.set_cons_succ])
      refine takeH (i := 11) (v := ?_) rfl (by kernel_rfl) (by kernel_rfl) (by kernel_rfl) (fun _ _ _ h => h) (Or.inl ⟨by rfl, ?_⟩) (by assumption) ?_
      rotate_left
      · (intro w hSw; (try dsimp only at hSw); go_simp; first | done | with_reducible rfl)
      (try simp only [Act.put, List.setIfInBounds_toArray, List.set_cons_zero, List.set_cons_succ])
      refine wpAnyH_done (by kernel_rfl) ?_ _
      have HB2 := Lib.hid (bnext HBW.out hc)
      clear ha hb hc HVX HEV HE HGr HXC HYC HIX HIY
      go_wp2
      go_roundw
      case rel => exact ⟨i + 1, by omega, by go_num, HB2⟩
      case measure => simp [intOf]; omega
    have hq2 : ¬ ((i : Int) < (L.length : Int)) := by omega
    obtain ⟨wo, hwo⟩ : ∃ wo, wo = wr := ⟨_, rfl⟩
    rw [← hwo] at hbw ⊢
    have HBW := Lib.hid (bnext HC.out hbw.out)
    have HGr := Lib.hid (below_block HG3.out HBW.out)
    clear hwo hbw hii hlt HR1 HR2 HVO HOK HC HG3
    go_wp2
    refine wp_region_held_drew (S := fun w' => Below wo.heap.size wo w') (by kernel_rfl) ((Below.refl _ _).drew) (fun ha => ?_)
    replace ha : Below wo.heap.size wo wo.drew := (Below.refl _ _).drew
    generalize wo.drew = wa at ha ⊢
    refine takeH (i := 0) (v := ?_) rfl (by kernel_rfl) (by kernel_rfl) (by kernel_rfl) (fun _ _ _ h => h) (Or.inl ⟨by rfl, ?_⟩) (by assumption) ?_
    rotate_left
    · (intro w hSw; (try dsimp only at hSw); obtain ⟨⟨q0, q1, q2, q3⟩, _⟩ := row4_at (below_block HGr.out hSw); go_simp; first | done | with_reducible rfl)
    (try simp only [Act.put, List.setIfInBounds_toArray, List.set_cons_zero, List.set_cons_succ])
    refine takeH (i := 1) (v := ?_) rfl (by kernel_rfl) (by kernel_rfl) (by kernel_rfl) (fun _ _ _ h => h) (Or.inl ⟨by rfl, ?_⟩) (by assumption) ?_
    rotate_left
    · (intro w hSw; (try dsimp only at hSw); go_simp; first | done | with_reducible rfl)
    (try simp only [Act.put, List.setIfInBounds_toArray, List.set_cons_zero, List.set_cons_succ])
    refine takeH (i := 2) (v := ?_) rfl (by kernel_rfl) (by kernel_rfl) (by kernel_rfl) (fun _ _ _ h => h) (Or.inl ⟨by rfl, ?_⟩) (by assumption) ?_
    rotate_left
    · (intro w hSw; (try dsimp only at hSw); go_simp; first | done | with_reducible rfl)
    (try simp only [Act.put, List.setIfInBounds_toArray, List.set_cons_zero, List.set_cons_succ])
    refine takeH (i := 4) (v := ?_) rfl (by kernel_rfl) (by kernel_rfl) (by kernel_rfl) (fun _ _ _ h => h) (Or.inl ⟨by rfl, ?_⟩) (by assumption) ?_
    rotate_left
    · (intro w hSw; (try dsimp only at hSw); obtain ⟨⟨q0, q1, q2, q3⟩, _⟩ := row4_at (below_block HGr.out hSw); go_simp; first | done | with_reducible rfl)
    (try simp only [Act.put, List.setIfInBounds_toArray, List.set_cons_zero, List.set_cons_succ])
    refine takeH (i := 5) (v := ?_) rfl (by kernel_rfl) (by kernel_rfl) (by kernel_rfl) (fun _ _ _ h => h) (Or.inl ⟨by rfl, ?_⟩) (by assumption) ?_
    rotate_left
    · (intro w hSw; (try dsimp only at hSw); go_simp; first | done | with_reducible rfl)
    (try simp only [Act.put, List.setIfInBounds_toArray, List.set_cons_zero, List.set_cons_succ])
    refine takeH (i := 6) (v := ?_) rfl (by kernel_rfl) (by kernel_rfl) (by kernel_rfl) (fun _ _ _ h => h) (Or.inl ⟨by rfl, ?_⟩) (by assumption) ?_
    rotate_left
    · (intro w hSw; (try dsimp only at hSw); go_simp; first | done | with_reducible rfl)
    (try simp only [Act.put, List.setIfInBounds_toArray, List.set_cons_zero, List.set_cons_succ])
    refine wpAnyH_ready (rs := [3]) (by kernel_rfl) (by simp) ?_
    refine stepH rfl (fun K hK => ?_) AllReadyH.nil
    go_simp
    refine (HS1.out wa (bnext HBW.out ha)).mono ?_
    rintro e wb ⟨v1, rfl, hr1, hq⟩
    obtain ⟨a1, c1, hv1, _, _⟩ := hr1.shape
    subst hv1
    have hb := bnext ha hq
    go_wp2_with fail
    refine hK.out _ _ (hb) (fun _ => ?_)
    clear hK K
    (try simp only [Act.put, List.setIfInBounds_toArray, List.set_cons_zero, List.set_cons_succ])
    refine wpAnyH_ready (rs := [7]) (by kernel_rfl) (by simp) ?_
    refine stepH rfl (fun K hK => ?_) AllReadyH.nil
    go_simp
    refine (HS2.out wb (bnext HBW.out hb)).mono ?_
    rintro e wc ⟨v2, rfl, hr2, hq⟩
    obtain ⟨a2, c2, hv2, _, _⟩ := hr2.shape
    have HE2 := Lib.hid (HEI.out _ _ wc (hr1.below hq) hr2)
    subst hv2
    have hc := bnext hb hq
    go_wp2_with fail
    refine hK.out _ _ (hc) (fun _ => ?_)
    clear hK K
    (try simp only [Act.put, List.setIfInBounds_toArray, List.set_cons_zero, List.set_cons_succ])
    refine wpAnyH_ready (rs := [8]) (by kernel_rfl) (by simp) ?_
    refine stepH rfl (fun K hK => ?_) AllReadyH.nil
    go_simp
    refine HE2.out.mono ?_
    rintro e wd ⟨rfl, hq⟩
    have hd := bnext hc hq
    go_wp2_with fail
    refine hK.out _ _ (hd) (fun _ => ?_)
    clear hK K
    (try simp only [Act.put, List.setIfInBounds_toArray, List.set_cons_zero, List.set_cons_succ])
    refine takeH (i := 9) (v := ?_) rfl (by kernel_rfl) (by kernel_rfl) (by kernel_rfl) (fun _ _ _ h => h) (Or.inl ⟨by rfl, ?_⟩) (by assumption) ?_
    rotate_left
    · (intro w hSw; (try dsimp only at hSw); go_simp; first | done | with_reducible rfl)
    (try simp only [Act.put, List.setIfInBounds_toArray, List.set_cons_zero, List.set_cons_succ])
    refine wpAnyH_ready (rs := [10]) (by kernel_rfl) (by simp) ?_
    refine stepH rfl (fun K hK => ?_) AllReadyH.nil
    go_simp
    refine (HAW.out wd).mono ?_
    rintro e we ⟨rfl, hq⟩
    have he := bnext hd hq
    go_wp2_with fail
    refine hK.out _ _ (he) (fun _ => ?_)
    clear hK K
    (try simp only [Act.put, List.setIfInBounds_toArray, List.set_cons_zero, List.set_cons_succ])
    refine takeH (i := 11) (v := ?_) rfl (by kernel_rfl) (by kernel_rfl) (by kernel_rfl) (fun _ _ _ h => h) (Or.inl ⟨by rfl, ?_⟩) (by assumption) ?_
    rotate_left
    · (intro w hSw; (try dsimp only at hSw); go_simp; first | done | with_reducible rfl)
    (try simp only [Act.put, List.setIfInBounds_toArray, List.set_cons_zero, List.set_cons_succ])
    refine takeH (i := 12) (v := ?_) rfl (by kernel_rfl) (by kernel_rfl) (by kernel_rfl) (fun _ _ _ h => h) (Or.inl ⟨by rfl, ?_⟩) (by assumption) ?_
    rotate_left
    · (intro w hSw; (try dsimp only at hSw); go_simp; first | done | with_reducible rfl)
    (try simp only [Act.put, List.setIfInBounds_toArray, List.set_cons_zero, List.set_cons_succ])
    refine wpAnyH_done (by kernel_rfl) ?_ _
    have HE := Lib.hid (bnext HB3.out (bnext HBW.out he))
    go_wp2
    go_ret
    exact ⟨rfl, HE.out⟩

end Go.Proofs.YthfpafnljnnndaaGreat
