/-
  The call of the reference's Paths: the number that counting level by level gives. Conditions: the nodes and the edges read; an edge names nodes; no number on the way exceeds 2^60.
-/
import Derived.Test.YtkgkhofkhjgnbaaGreatGMake
namespace Go.Proofs.YtkgkhofkhjgnbaaGreat
open Go.RowKit Go.Joins Go.Shelf
open JM (Chg)
open CM (Fp)
open VM (Ent)

theorem put1 {base g N cap k : Nat} {w : World} {xs : List Int} (h : OwnI base w (.slice (some ⟨g, 0, none⟩) N cap) xs) {x : Int} (hk : xs[k]? = some x) (y : Int) :
    OwnI base (w.setCell ⟨g, k, none⟩ (.int .i64 y)) (.slice (some ⟨g, 0, none⟩) N cap) (xs.set k y) ∧ Below base w (w.setCell ⟨g, k, none⟩ (.int .i64 y)) := by
  obtain ⟨h1, h2, _⟩ := own_set h hk (j := 0) (y := y) (u := .int .i64 y) (by decide) rfl
  rw [Nat.mul_one, Nat.add_zero] at h1 h2
  exact ⟨h1, h2⟩
/-- A number of the call's own list: where it lies. -/
theorem at1 {base g N cap : Nat} {w : World} {xs : List Int} (h : OwnI base w (.slice (some ⟨g, 0, none⟩) N cap) xs) (k : Nat) (hk : k < xs.length) :
    (∀ w0, (Instr.indexAt 22 (.slice (some ⟨g, 0, none⟩) N cap) (.int .i64 (k : Int))).run Tryz.prog w0 = .ok (.pointer (some ⟨g, k, none⟩)) w0) ∧ w.cell? ⟨g, k, none⟩ = some (.int .i64 (xs.getD k 0)) ∧ w.frozen? ⟨g, k, none⟩ = false := by
  have hx := List.getElem?_eq_getElem hk
  obtain ⟨g', cap', hv, hi, _, _, hc⟩ := own_at intE h hx
  cases hv
  obtain ⟨h1, h2⟩ := hc 0 _ rfl
  rw [Nat.mul_one] at hi
  rw [Nat.mul_one, Nat.add_zero] at h1 h2
  refine ⟨hi, ?_, h2⟩
  rw [h1, List.getD_eq_getElem?_getD, hx]; rfl
namespace IM
def lnL (L : List (List Fp)) (i : Nat) : Nat := (L.getD i []).length
theorem lnL_of {L : List (List Fp)} {i : Nat} {f : List Fp} (h : L[i]? = some f) : lnL L i = f.length := by unfold lnL; rw [List.getD_eq_getElem?_getD, h]; rfl
/-- What the reference's Paths gives. -/
def pv (L : List (List Fp)) (es : List GM.Ed) (fr tg : Int) : Int :=
  if fr < 0 ∨ (L.length : Int) ≤ fr ∨ tg < 0 ∨ (L.length : Int) ≤ tg then 0 else (GM.run (lnL L) es tg.toNat L.length (lnL L tg.toNat)).getD fr.toNat 0
end IM
theorem ret_i {a b : Int} (h : a = b) : Ending.returned (.int .i64 a) = .returned (.int .i64 b) := by rw [h]

set_option maxRecDepth 100000 in
set_option maxHeartbeats 8000000 in
theorem rPaths (nv ev : Value) (L : List (List Fp)) (es : List GM.Ed) (fr tg : Int) (w : World) (h : RdLs RdF w nv L) (he : RdE2 w ev es) (hl : L.length ≤ 1000) (hls : ∀ f ∈ L, f.length ≤ 1000) (hel : es.length ≤ 1000000)
    (hes : ∀ e ∈ es, e.1 < L.length ∧ e.2 < L.length)
    (hbd : ∀ t, t < L.length → ∀ d, d < IM.lnL L t → ∀ k, k ≤ es.length → ∀ i, i < L.length → 0 ≤ (GM.prt (IM.lnL L) es t (IM.lnL L t - 1 - d) (GM.run (IM.lnL L) es t L.length d) k).getD i 0 ∧ (GM.prt (IM.lnL L) es t (IM.lnL L t - 1 - d) (GM.run (IM.lnL L) es t L.length d) k).getD i 0 ≤ 1152921504606846976) :
    Calls Tryz.prog 26 #[nv, ev, .int .i64 fr, .int .i64 tg] w fun e w' => e = .returned (.int .i64 (IM.pv L es fr tg)) ∧ Below w.heap.size w w' := by
  obtain ⟨na, nc, rfl, _, _⟩ := h.shape
  obtain ⟨xa, xc, rfl, _, _⟩ := he.shape
  by_cases hc : fr < 0 ∨ (L.length : Int) ≤ fr ∨ tg < 0 ∨ (L.length : Int) ≤ tg
  case pos =>
    have HP := Lib.hid (show (0 : Int) = IM.pv L es fr tg by unfold IM.pv; rw [if_pos hc])
    clear h he hls hes hbd
    rcases hc with hc | hc | hc | hc
    · go_enter Tryz.func26, Tryz.ntmps26
      go_wp2
      go_ret
      exact ⟨ret_i HP.out, Below.refl _ _⟩
    · by_cases h1 : fr < 0
      · omega
      · go_enter Tryz.func26, Tryz.ntmps26
        go_wp2
        go_ret
        exact ⟨ret_i HP.out, Below.refl _ _⟩
    · by_cases h1 : fr < 0
      · go_enter Tryz.func26, Tryz.ntmps26
        go_wp2
        go_ret
        exact ⟨ret_i HP.out, Below.refl _ _⟩
      · by_cases h2 : (L.length : Int) ≤ fr
        all_goals
          go_enter Tryz.func26, Tryz.ntmps26
          go_wp2
          go_ret
          exact ⟨ret_i HP.out, Below.refl _ _⟩
    · by_cases h1 : fr < 0
      · go_enter Tryz.func26, Tryz.ntmps26
        go_wp2
        go_ret
        exact ⟨ret_i HP.out, Below.refl _ _⟩
      · by_cases h2 : (L.length : Int) ≤ fr
        · go_enter Tryz.func26, Tryz.ntmps26
          go_wp2
          go_ret
          exact ⟨ret_i HP.out, Below.refl _ _⟩
        · by_cases h3 : tg < 0
          all_goals
            go_enter Tryz.func26, Tryz.ntmps26
            go_wp2
            go_ret
            exact ⟨ret_i HP.out, Below.refl _ _⟩
  have HP := Lib.hid (show (GM.run (IM.lnL L) es tg.toNat L.length (IM.lnL L tg.toNat)).getD fr.toNat 0 = IM.pv L es fr tg by unfold IM.pv; rw [if_neg hc])
  obtain ⟨F, hF⟩ : ∃ F : Nat, fr = (F : Int) := ⟨fr.toNat, by omega⟩
  obtain ⟨T, hT⟩ : ∃ T : Nat, tg = (T : Int) := ⟨tg.toNat, by omega⟩
  subst hF
  subst hT
  have hFl : F < L.length := by omega
  have hTl : T < L.length := by omega
  rw [Int.toNat_natCast, Int.toNat_natCast] at HP
  have q1 : ¬ ((F : Int) < 0) := by omega
  have q2 : ¬ ((L.length : Int) ≤ (F : Int)) := by omega
  have q3 : ¬ ((T : Int) < 0) := by omega
  have q4 : ¬ ((L.length : Int) ≤ (T : Int)) := by omega
  have hbT := hbd T hTl
  have hat := List.getElem?_eq_getElem hTl
  obtain ⟨tb, tb2, tad, tl, tcp, hit, htb, htc, hto⟩ := h.at_ cfgE T _ hat
  obtain ⟨_, _, hts, _, _⟩ := hto.shape
  obtain rfl : tl = (L[T]).length := by cases hts; rfl
  have hlt : (L[T]).length ≤ 1000 := hls _ (List.getElem_mem hTl)
  have HLT := Lib.hid (IM.lnL_of hat)
  have HN := Lib.hid h
  have HE := Lib.hid he
  have HLS := Lib.hid hls
  have HES := Lib.hid hes
  have HTC := Lib.hid (show ∀ w', Below w.heap.size w w' → w'.cell? ⟨tb, tb2, none⟩ = some (.slice tad (L[T]).length tcp) from fun w' hb => below_cell hb htc)
  have HIT := Lib.hid hit
  generalize (L[T]).length = lt at *
  have HBD := Lib.hid (fun d (hd : d < lt) => hbT d (by rw [HLT.out]; exact hd))
  clear h he hls hes hbd hc hbT hat hit htb htc hto hts
  obtain ⟨N, hN⟩ : ∃ N, N = L.length := ⟨_, rfl⟩
  have HNN := Lib.hid hN
  rw [← hN] at q2 q4 hl hFl hTl HP HBD HES HN HIT ⊢
  clear hN
  have hl1 : N ≤ 1073741824 := by omega
  go_enter Tryz.func26, Tryz.ntmps26
  go_wp2_with (refine wp_makeG intE 0 (zv := .int .i64 0) (by kernel_rfl) (.int .i64 0) rfl rfl rfl _ _ rfl (n := N) rfl rfl hl1 (Nat.le_refl _) ?_)
  intro w1 ho1 hb1
  obtain ⟨hi1, hc1, hf1⟩ := at1 ho1 T (by simp; exact hTl)
  have hput := put1 ho1 (k := T) (x := 0) (by rw [List.getElem?_replicate, if_pos hTl]) 1
  have hrun0 : (List.replicate N (0 : Int)).set T 1 = GM.run (IM.lnL L) es T N 0 := rfl
  rw [hrun0] at hput
  have HO2 := Lib.hid hput.1
  have HB2 := Lib.hid (hb1.trans hput.2)
  clear hput hrun0 ho1 hb1
  go_upto_region 5 with fail
  generalize w1.setCell ⟨w.heap.size, T, none⟩ (.int .i64 1) = w2 at HO2 HB2 ⊢
  have htc := HTC.out w2 HB2.out
  have hit := HIT.out
  clear hi1 hc1 hf1
  go_wp2
  clear htc hit HTC HIT
  go_loopw [10] (fun zx wr => ∃ (d : Nat) (z : Int), d ≤ lt ∧ zx = .int .i64 z ∧ z = (lt : Int) - 1 - (d : Int) ∧ Hid (OwnI w.heap.size wr (.slice (some ⟨w.heap.size, 0, none⟩) N N) (GM.run (IM.lnL L) es T N d)) ∧ Hid (Below w.heap.size w wr)) (fun zx _ => (intOf zx + 1).toNat)
  case atStart => exact ⟨0, (lt : Int) - 1, Nat.zero_le _, rfl, by omega, HO2, HB2⟩
  case round =>
    obtain ⟨d, z, hd, rfl, hz, hox, hbx⟩ := hrel
    clear HO2 HB2
    by_cases hdl : d < lt
    case neg =>
      have hq2 : ¬ (0 ≤ z) := by omega
      obtain rfl : d = lt := by omega
      obtain ⟨hi1, hc1, hf1⟩ := at1 hox.out F (by rw [GM.run_len]; exact hFl)
      rw [← HLT.out, HP.out] at hc1
      clear hox hdl hd hz HBD
      go_wp2
      go_ret
      exact ⟨rfl, hbx.out⟩
    obtain ⟨lv, hlv⟩ : ∃ lv : Nat, z = (lv : Int) := ⟨z.toNat, by omega⟩
    have hlv2 : lv = lt - 1 - d := by omega
    subst hlv
    have hq2 : (0 : Int) ≤ (lv : Int) := by omega
    have HBB := Lib.hid (fun k hk i hi => HBD.out d hdl k hk i hi)
    rw [HLT.out, ← hlv2] at HBB
    have HRN := Lib.hid (show GM.run (IM.lnL L) es T N (d + 1) = GM.prt (IM.lnL L) es T lv (GM.run (IM.lnL L) es T N d) es.length by rw [hlv2, ← HLT.out]; rfl)
    have hrl := GM.run_len (ln := IM.lnL L) (es := es) (tgt := T) N d
    generalize GM.run (IM.lnL L) es T N d = W0 at *
    have HO3 := Lib.hid (show OwnI w.heap.size wr (.slice (some ⟨w.heap.size, 0, none⟩) N N) (GM.prt (IM.lnL L) es T lv W0 0) from hox.out)
    have HB3 := hbx
    clear hox hbx hlv2
    go_wp2
    go_loopw [11] (fun kx wr => ∃ k : Nat, k ≤ es.length ∧ kx = .int .i64 k ∧ Hid (OwnI w.heap.size wr (.slice (some ⟨w.heap.size, 0, none⟩) N N) (GM.prt (IM.lnL L) es T lv W0 k)) ∧ Hid (Below w.heap.size w wr)) (fun kx _ => es.length - (intOf kx).toNat)
    case atStart => exact ⟨0, Nat.zero_le _, rfl, HO3, HB3⟩
    case round =>
      obtain ⟨k, hk, rfl, hox, hbx⟩ := hrel
      clear HO3 HB3
      by_cases hkl : k < es.length
      case neg =>
        have hq3 : ¬ ((k : Int) < (es.length : Int)) := by omega
        obtain rfl : k = es.length := by omega
        have HO4 := Lib.hid (show OwnI w.heap.size wr (.slice (some ⟨w.heap.size, 0, none⟩) N N) (GM.run (IM.lnL L) es T N (d + 1)) by rw [HRN.out]; exact hox.out)
        clear hox hkl hk HBB
        go_wp2
        go_roundw
        case rel => exact ⟨d + 1, (lv : Int) - 1, by omega, by go_num, by omega, HO4, hbx⟩
        case measure => simp [intOf]; omega
      have hq3 : (k : Int) < (es.length : Int) := by omega
      have hek := List.getElem?_eq_getElem hkl
      generalize es[k] = ed at hek
      obtain ⟨e1, e2⟩ := ed
      obtain ⟨h1n, h2n⟩ := HES.out _ (List.mem_of_getElem? hek)
      have h1n : e1 < N := h1n
      have h2n : e2 < N := h2n
      obtain ⟨eb, eo, hie, heb, hec⟩ := HE.out.at_ edgE k _ hek
      have c0 : w.cell? ⟨eb, eo, none⟩ = some (.int .i64 (e1 : Int)) := hec 0 _ rfl
      have c1 : w.cell? ⟨eb, eo + 1, none⟩ = some (.int .i64 (e2 : Int)) := hec 1 _ rfl
      have hat := List.getElem?_eq_getElem (show e1 < L.length by rw [← HNN.out]; exact h1n)
      have hf0 := HLS.out _ (List.mem_of_getElem? hat)
      have HLN := Lib.hid (IM.lnL_of hat)
      obtain ⟨xb, xo, xad, xl, xcp, hix, hxb, hxc, hxo⟩ := HN.out.at_ cfgE e1 _ hat
      obtain ⟨_, _, hxs, _, _⟩ := hxo.shape
      obtain rfl : xl = (L[e1]'(by rw [← HNN.out]; exact h1n)).length := by cases hxs; rfl
      have HSU := Lib.hid (GM.prt_succ (ln := IM.lnL L) (tgt := T) (lv := lv) (W := W0) hek)
      generalize (L[e1]'(by rw [← HNN.out]; exact h1n)).length = l1 at *
      have HC := Lib.hid (show ∀ w', Below w.heap.size w w' → w'.cell? ⟨eb, eo, none⟩ = some (.int .i64 (e1 : Int)) ∧ w'.cell? ⟨eb, eo + 1, none⟩ = some (.int .i64 (e2 : Int)) ∧ w'.cell? ⟨xb, xo, none⟩ = some (.slice xad l1 xcp) from fun w' hb => ⟨below_cell hb c0, below_cell hb c1, below_cell hb hxc⟩)
      have HIE := Lib.hid hie
      have HIX := Lib.hid hix
      obtain ⟨c0, c1, hxc⟩ := HC.out wr hbx.out
      clear hat hek hec hxo hxs hxb heb
      have hst : GM.stp (IM.lnL L) T lv (GM.prt (IM.lnL L) es T lv W0 k) (e1, e2) = if l1 = lv ∧ e1 ≠ T then (GM.prt (IM.lnL L) es T lv W0 k).set e1 ((GM.prt (IM.lnL L) es T lv W0 k).getD e1 0 + (GM.prt (IM.lnL L) es T lv W0 k).getD e2 0) else GM.prt (IM.lnL L) es T lv W0 k := by unfold GM.stp; rw [HLN.out]
      have HST := Lib.hid (HSU.out.trans hst)
      have hpl := GM.prt_len (ln := IM.lnL L) (es := es) (tgt := T) lv W0 k
      have b1 := HBB.out k (by omega) e1 h1n
      have b2 := HBB.out k (by omega) e2 h2n
      clear hst HSU HLN
      generalize GM.prt (IM.lnL L) es T lv W0 k = Wk at *
      by_cases hlev : l1 = lv
      · subst hlev
        have hq4 : ((l1 : Int) == (l1 : Int)) = true := beq_t rfl
        by_cases het : e1 = T
        · have hq5 : ((e1 : Int) != (T : Int)) = false := by rw [het]; simp
          have HO4 := Lib.hid (show OwnI w.heap.size wr (.slice (some ⟨w.heap.size, 0, none⟩) N N) (GM.prt (IM.lnL L) es T l1 W0 (k + 1)) by rw [HST.out, if_neg (fun hh => hh.2 het)]; exact hox.out)
          clear hox het HST
          go_wp2
          go_roundw
          case rel => exact ⟨k + 1, by omega, by go_num, HO4, hbx⟩
          case measure => simp [intOf]; omega
        have hq5 : ((e1 : Int) != (T : Int)) = true := by simpa [bne_iff_ne] using (show (e1 : Int) ≠ (T : Int) by omega)
        have HSE := Lib.hid (HST.out.trans (if_pos ⟨rfl, het⟩))
        obtain ⟨hi1, hc1, hf1⟩ := at1 hox.out e1 (by omega)
        obtain ⟨hi2, hc2, _⟩ := at1 hox.out e2 (by omega)
        obtain ⟨x1, hx1⟩ : ∃ x, x = Wk.getD e1 0 := ⟨_, rfl⟩
        obtain ⟨x2, hx2⟩ : ∃ x, x = Wk.getD e2 0 := ⟨_, rfl⟩
        rw [← hx1] at hc1 b1
        rw [← hx2] at hc2 b2
        rw [← hx1, ← hx2] at HSE
        have hxe : Wk[e1]? = some x1 := by rw [hx1, List.getD_eq_getElem?_getD, List.getElem?_eq_getElem (by omega)]; rfl
        have hsum : IntKind.i64.wrap (x1 + x2) = x1 + x2 := IntWalk.i64_in _ (by omega)
        clear hx1 hx2 HST het
        go_upto_region 12 with fail
        go_still_tail 24, (by kernel_rfl)
        change wpList _ _ _ _ _ wr.drew
        have HD := Lib.hid (show Below wr.heap.size wr wr.drew from (Below.refl _ _).drew)
        replace c0 := below_cell HD.out c0
        replace c1 := below_cell HD.out c1
        have hc1 : wr.drew.cell? ⟨w.heap.size, e1, none⟩ = some (.int .i64 x1) := hc1
        have hc2 : wr.drew.cell? ⟨w.heap.size, e2, none⟩ = some (.int .i64 x2) := hc2
        have hf1 : wr.drew.frozen? ⟨w.heap.size, e1, none⟩ = false := hf1
        have HO4 := Lib.hid (show OwnI w.heap.size wr.drew (.slice (some ⟨w.heap.size, 0, none⟩) N N) Wk from hox.out)
        have HB4 := Lib.hid (hbx.out.drew)
        clear HD hox hbx
        generalize wr.drew = wz at *
        have hput := put1 HO4.out hxe (x1 + x2)
        have HO5 := Lib.hid hput.1
        have HB5 := Lib.hid (HB4.out.trans hput.2)
        rw [← HSE.out] at HO5
        clear hput HO4 HB4 HSE hxe
        go_wp2
        go_roundw
        case rel => first | exact ⟨k + 1, by omega, by go_num, HO5, HB5⟩ | exact ⟨k + 1, by omega, by go_num, HO5⟩
        case measure => simp [intOf]; omega
      · have hq4 : ((l1 : Int) == (lv : Int)) = false := beq_eq_false_iff_ne.2 (by omega)
        have HO4 := Lib.hid (show OwnI w.heap.size wr (.slice (some ⟨w.heap.size, 0, none⟩) N N) (GM.prt (IM.lnL L) es T lv W0 (k + 1)) by rw [HST.out, if_neg (fun hh => hlev hh.1)]; exact hox.out)
        clear hox hlev HST
        go_wp2
        go_roundw
        case rel => first | exact ⟨k + 1, by omega, by go_num, HO4, hbx⟩ | exact ⟨k + 1, by omega, by go_num, HO4⟩
        case measure => simp [intOf]; omega

end Go.Proofs.YtkgkhofkhjgnbaaGreat
