/-
  The call of the reference's DecodeGenesis: it returns what the plain mathematics says of the bytes. Conditions: the slice reads as bytes.
-/
import Derived.Test.YtdipheijagjelaaMKit
import Derived.Test.YtdipheijagjelaaKE
namespace Go.Proofs.Ytdipheijagjelaa
open Go.RowKit Go.Joins
open JM (Chg St)
open MM (Mem Ent Sm Tri)

theorem flat_of : ∀ (C : Nat) (l : List Int), l.length = 2 * C + 3 → ∃ ms a b c, l = flat ms ++ [a, b, c] ∧ ms.length = C
  | 0, [a, b, c], _ => ⟨[], a, b, c, rfl, rfl⟩
  | C + 1, x :: y :: l, h => by
    obtain ⟨ms, a, b, c, h1, h2⟩ := flat_of C l (by simp at h; omega)
    exact ⟨(x, y) :: ms, a, b, c, by rw [h1]; rfl, by simp [h2]⟩
theorem flat_at (ms : List Mem) (t : List Int) (j : Nat) (x y : Int) (h : ms[j]? = some (x, y)) : (flat ms ++ t)[2 * j]? = some x ∧ (flat ms ++ t)[2 * j + 1]? = some y := by
  induction ms generalizing j with
  | nil => simp at h
  | cons m ms ih =>
    cases j with
    | zero =>
      obtain rfl : m = (x, y) := by simpa using h
      exact ⟨rfl, rfl⟩
    | succ j =>
      have := ih j (by simpa using h)
      show (m.1 :: m.2 :: (flat ms ++ t))[2 * j + 1 + 1]? = _ ∧ (m.1 :: m.2 :: (flat ms ++ t))[2 * j + 1 + 1 + 1]? = _
      exact this
theorem flat_rule (ms : List Mem) (a b c : Int) : (flat ms ++ [a, b, c])[2 * ms.length]? = some a ∧ (flat ms ++ [a, b, c])[2 * ms.length + 1]? = some b ∧ (flat ms ++ [a, b, c])[2 * ms.length + 2]? = some c := by
  have hl : (flat ms).length = 2 * ms.length := flat_len ms
  refine ⟨?_, ?_, ?_⟩
  · rw [List.getElem?_append_right (by omega), hl, Nat.sub_self]; rfl
  · rw [List.getElem?_append_right (by omega), hl, show 2 * ms.length + 1 - 2 * ms.length = 1 by omega]; rfl
  · rw [List.getElem?_append_right (by omega), hl, show 2 * ms.length + 2 - 2 * ms.length = 2 by omega]; rfl
theorem gfin_bad {k c f : Int} {u : Nat} {er : Int} {ms : List Mem} (h : er ≠ 0) : gfin k c f u er ms = gbad er := by
  unfold gfin MM.or2
  rw [if_neg h, if_pos h]
theorem gfin_ok {k c f : Int} {u : Nat} {ms : List Mem} : gfin k c f u 0 ms = if MM.errG k c f ms ≠ 0 then gbad (MM.errG k c f ms) else (0, u, k, c, f, ms) := rfl
theorem stop3 {xs : List Int} {s : St} (hs : s.2 ≠ 0) : gfin (JM.step xs s).1 (JM.step xs (JM.step xs s).2).1 (JM.step xs (JM.step xs (JM.step xs s).2).2).1 (JM.step xs (JM.step xs (JM.step xs s).2).2).2.1 (JM.step xs (JM.step xs (JM.step xs s).2).2).2.2 [] = gbad s.2 := by
  simp only [JM.step_stop hs]
  exact gfin_bad hs
theorem decG_err {xs : List Int} {e : Int} (hn : JM.num xs = (0, 0, e)) (he : e ≠ 0) : decG xs = gbad e := by
  have h1 : JM.step xs (0, 0) = (0, (0, e)) := by
    unfold JM.step
    simp [hn, he]
  unfold decG
  simp only [h1]
  rw [if_neg (by decide), if_neg (by decide)]
  exact stop3 (s := (0, e)) he
theorem decG_long {xs : List Int} {m : Int} {L : Nat} (hn : JM.num xs = (m, (L : Int), 0)) (hm : 12 < m) : decG xs = gbad 3 := by
  have h1 : JM.step xs (0, 0) = (m, (L, 0)) := by
    unfold JM.step
    simp [hn]
  unfold decG
  simp only [h1]
  rw [if_pos hm, if_pos hm]
  exact stop3 (s := (L, 3)) (show (3 : Int) ≠ 0 by decide)
theorem decG_run {xs : List Int} {C L : Nat} (hn : JM.num xs = ((C : Int), (L : Int), 0)) (hC : C ≤ 12) {ms : List Mem} {a b c : Int} {u : Nat} {er : Int}
    (hm : JM.many (xs.drop L) (0, 0) (2 * C + 3) = (flat ms ++ [a, b, c], (u, er))) : decG xs = gfin a b c (L + u) er ms := by
  have h1 : JM.step xs (0, 0) = ((C : Int), (L, 0)) := by
    unfold JM.step
    simp [hn]
  refine decG_many h1 (by omega) rfl ?_
  rw [many_shift, hm]

theorem rdg_ret {R : Ending → World → Prop} {a : Act} {w : World} {g : Nat} {s : Value} {k c f u er : Int} (hp : a.tmps.getD 2 undef = .pointer (some ⟨g, 0, none⟩)) (h3 : a.tmps.getD 3 undef = .int .i64 u) (h4 : a.tmps.getD 4 undef = .int .i64 er) (hg : w.heap[g]? = some (gBox s k c f))
    (hd : a.defers = []) (hR : R (.returned (.tuple #[vw s k c f, .int .i64 u, .int .i64 er])) w) : bodyPost Try.prog Try.f35 R .ret a w := by
  have := results_cell_tmp_tmp (P := Try.prog) (fn := Try.f35) rfl a.tmps w g 26 _ _ _ hp hg Try.underlying26 rfl (by kernel_rfl)
  rw [h3, h4] at this
  exact bodyPost_ret this hd hR

set_option maxRecDepth 100000 in
set_option maxHeartbeats 8000000 in
theorem rDecGen (v : Value) (xs : List Int) (w : World) (h : Rd w v xs) :
    Calls Try.prog 35 #[v] w fun e w' => ∃ sl, e = .returned (.tuple #[vw sl (decG xs).2.2.1 (decG xs).2.2.2.1 (decG xs).2.2.2.2.1, .int .i64 ((decG xs).2.1 : Int), .int .i64 (decG xs).1]) ∧ RdM w' sl (decG xs).2.2.2.2.2 ∧ Below w.heap.size w w' := by
  have hby := h.bytes
  obtain ⟨w0, hw0⟩ : ∃ w0, w.alloc (.cells #[.slice none 0 0, .int .i64 0, .int .i64 0, .int .i64 0] 26) = w0 := ⟨_, rfl⟩
  have hB := below_fresh w (.cells #[.slice none 0 0, .int .i64 0, .int .i64 0, .int .i64 0] 26)
  have hZ := heap_alloc_new w (.cells #[.slice none 0 0, .int .i64 0, .int .i64 0, .int .i64 0] 26)
  rw [hw0] at hB hZ
  have hnum := rNumber v xs w0 (h.below hB)
  have HB := Lib.hid hB
  have HZ := Lib.hid (show w0.heap[w.heap.size]? = some (gBox (.slice none 0 0) 0 0 0) from hZ)
  have HV := Lib.hid (h.below hB)
  have HW := Lib.hid hw0
  have HXL := Lib.hid (show xs.length ≤ 9223372036854775807 by
    obtain ⟨_, _, _, _, hn1, hn2, hcm, _⟩ := HV.out
    unfold maxLen at hcm
    omega)
  obtain ⟨R, hR⟩ : ∃ R, R = decG xs := ⟨_, rfl⟩
  rw [← hR]
  obtain ⟨av, nv, cv', rfl⟩ : ∃ a n c, v = .slice a n c := by obtain ⟨a, c, hv, _⟩ := h.shape; exact ⟨_, _, _, hv⟩
  clear h hB hZ hw0
  rcases JM.num_two xs hby with ⟨e1, he1, hn⟩ | ⟨m, hm, hn, hml⟩
  · rw [hn] at hnum
    have HN := Lib.hid hnum
    have HFIN := Lib.hid (show R = gbad e1 from hR.trans (decG_err hn (by omega)))
    have hne : (e1 != 0) = true := bne_t (by omega)
    obtain ⟨⟨z0, z1, z2, z3⟩, f0, f1, f2, f3⟩ := row4_at HZ.out
    clear hnum hn hR he1 hby
    go_enter Try.func35, Try.ntmps35
    go_upto_region 1 with fail
    rw [HW.out]
    go_wp2_with fail
    refine HN.out.mono ?_
    rintro e w1 ⟨rfl, rfl⟩
    go_wp2
    have hput := row4_put HZ.out (.slice none 0 0) (.int .i64 0) (.int .i64 0) (.int .i64 0) w.heap.size (Nat.le_refl _)
    refine rdg_ret rfl rfl rfl hput.1 rfl ⟨.slice none 0 0, ?_, ?_, HB.out.trans hput.2⟩
    · rw [HFIN.out]; rfl
    · rw [HFIN.out]; exact RdG.nil hlM _
  by_cases h12 : 12 < (m : Int)
  · rw [hn] at hnum
    have HN := Lib.hid hnum
    have HFIN := Lib.hid (show R = gbad 3 from hR.trans (decG_long hn h12))
    obtain ⟨⟨z0, z1, z2, z3⟩, f0, f1, f2, f3⟩ := row4_at HZ.out
    clear hnum hn hR hby hml hm
    generalize (WM.enc m).length = L at HN
    go_enter Try.func35, Try.ntmps35
    go_upto_region 1 with fail
    rw [HW.out]
    go_wp2_with fail
    refine HN.out.mono ?_
    rintro e w1 ⟨rfl, rfl⟩
    go_wp2
    have hput := row4_put HZ.out (.slice none 0 0) (.int .i64 0) (.int .i64 0) (.int .i64 0) w.heap.size (Nat.le_refl _)
    refine rdg_ret rfl rfl rfl hput.1 rfl ⟨.slice none 0 0, ?_, ?_, HB.out.trans hput.2⟩
    · rw [HFIN.out]; rfl
    · rw [HFIN.out]; exact RdG.nil hlM _
  · rw [hn] at hnum
    have HN := Lib.hid hnum
    generalize (WM.enc m).length = L at HN hn hml
    obtain ⟨v2, hcut, hrd2⟩ := HV.out.cutL' L hml
    have hM := rRead v2 _ (2 * m + 3) w0 hrd2 (by omega)
    have hl := JM.many_length (xs.drop L) (0, 0) (2 * m + 3)
    have hus := (JM.many_small (xs.drop L) (0, 0) hrd2.bytes (Nat.zero_le _) (2 * m + 3)).2
    rw [List.length_drop] at hus
    obtain ⟨⟨l, u, er⟩, hMM⟩ : ∃ M, JM.many (xs.drop L) (0, 0) (2 * m + 3) = M := ⟨_, rfl⟩
    rw [hMM] at hM hl hus
    dsimp only at hM hl hus
    obtain ⟨ms, a, b, c, rfl, hms⟩ := flat_of m l hl
    have HR2 := Lib.hid (show R = gfin a b c (L + u) er ms from hR.trans (decG_run hn (by omega) hMM))
    rw [show ((2 * m + 3 : Nat) : Int) = 2 * (m : Int) + 3 by omega] at hM
    have HM : Hid (Calls Try.prog 82 #[v2, .int .i64 (2 * (m : Int) + 3)] w0 _) := hM
    have hm12 : (m : Int) ≤ 12 := by omega
    have h12' : decide (12 < (m : Int)) = false := decide_eq_false h12
    have HSUM := Lib.hid (show L + u ≤ 9223372036854775807 by have := HXL.out; omega)
    have HMS := Lib.hid hms
    clear hM hMM hl hus hnum hn hR hby hml hm hrd2 hms HV h12
    go_enter Try.func35, Try.ntmps35
    go_upto_region 1 with fail
    rw [HW.out]
    go_wp2_with fail
    refine HN.out.mono ?_
    rintro e w1 ⟨rfl, rfl⟩
    go_wp2_with fail
    refine HM.out.mono ?_
    rintro e w2 (⟨hne, rfl, hb2⟩ | ⟨her, hv, rfl, hoh, hb2⟩)
    · have HFIN := Lib.hid (show R = gbad er by rw [HR2.out, gfin_bad hne])
      have hne' : (er != 0) = true := bne_t hne
      have HZ2 := Lib.hid (below_block HZ.out hb2)
      have HB2 := Lib.hid (bnext HB.out hb2)
      obtain ⟨⟨z0, z1, z2, z3⟩, f0, f1, f2, f3⟩ := row4_at HZ2.out
      clear hb2 hne HM HN HR2 hcut
      go_wp2
      have hput := row4_put HZ2.out (.slice none 0 0) (.int .i64 0) (.int .i64 0) (.int .i64 0) w.heap.size (Nat.le_refl _)
      refine rdg_ret rfl rfl rfl hput.1 rfl ⟨.slice none 0 0, ?_, ?_, HB2.out.trans hput.2⟩
      · rw [HFIN.out]; rfl
      · rw [HFIN.out]; exact RdG.nil hlM _
    · subst her
      rw [gfin_ok] at HR2
      have HZ2 := Lib.hid (below_block HZ.out hb2)
      have HB2 := Lib.hid (bnext HB.out hb2)
      obtain ⟨hda, hdn, hdc, rfl⟩ : ∃ a n c, hv = .slice a n c := by obtain ⟨a, c, h, _⟩ := hoh.rd.shape; exact ⟨a, _, c, h⟩
      have hfr := flat_rule ms a b c
      rw [HMS.out] at hfr
      obtain ⟨bx0, ox0, hj0, _, _⟩ := atI hoh.rd (2 * m) a hfr.1
      obtain ⟨bx1, ox1, hj1, _, _⟩ := atI hoh.rd (2 * m + 1) b hfr.2.1
      obtain ⟨bx2, ox2, hj2, _, _⟩ := atI hoh.rd (2 * m + 2) c hfr.2.2
      have HC0 := Lib.hid (fun w' (ho : OwnI w0.heap.size w' (.slice hda hdn hdc) (flat ms ++ [a, b, c])) => atI_cell ho.rd _ _ hfr.1 hj0)
      have HC1 := Lib.hid (fun w' (ho : OwnI w0.heap.size w' (.slice hda hdn hdc) (flat ms ++ [a, b, c])) => atI_cell ho.rd _ _ hfr.2.1 hj1)
      have HC2 := Lib.hid (fun w' (ho : OwnI w0.heap.size w' (.slice hda hdn hdc) (flat ms ++ [a, b, c])) => atI_cell ho.rd _ _ hfr.2.2 hj2)
      rw [show ((2 * m : Nat) : Int) = 2 * (m : Int) by omega] at hj0
      rw [show ((2 * m + 1 : Nat) : Int) = 2 * (m : Int) + 1 by omega] at hj1
      rw [show ((2 * m + 2 : Nat) : Int) = 2 * (m : Int) + 2 by omega] at hj2
      have HJ0 := Lib.hid hj0
      have HJ1 := Lib.hid hj1
      have HJ2 := Lib.hid hj2
      have hw1 : IntKind.i64.wrap (2 * (m : Int)) = 2 * (m : Int) := IntWalk.i64_in _ (by omega)
      have hw2 : IntKind.i64.wrap (2 * (m : Int) + 1) = 2 * (m : Int) + 1 := IntWalk.i64_in _ (by omega)
      have hw3 : IntKind.i64.wrap (2 * (m : Int) + 2) = 2 * (m : Int) + 2 := IntWalk.i64_in _ (by omega)
      have HO2 := Lib.hid hoh
      clear hb2 hoh hfr hj0 hj1 hj2 HM HN hcut HZ HB
      go_wp2
      refine wp_region_held_drew (S := fun w' => OwnI w0.heap.size w' (.slice hda hdn hdc) (flat ms ++ [a, b, c])) (by kernel_rfl) (HO2.out.drewN 1) (fun _ => ?_)
      have ha : OwnI w0.heap.size w2.drew (.slice hda hdn hdc) (flat ms ++ [a, b, c]) := HO2.out.drewN 1
      replace HZ2 := Lib.hid (show w2.drew.heap[w.heap.size]? = some (gBox (.slice none 0 0) 0 0 0) from HZ2.out)
      replace HB2 := Lib.hid HB2.out.drew
      clear HO2
      generalize w2.drew = wa at ha HZ2 HB2 ⊢
      refine takeH (i := 0) (v := ?_) rfl (by kernel_rfl) (by kernel_rfl) (by kernel_rfl) (fun _ _ _ h => h) (Or.inl ⟨by rfl, ?_⟩) (by assumption) ?_
      rotate_left
      · (intro w hSw; (try dsimp only at hSw); go_simp; first | done | with_reducible rfl)
      (try simp only [Act.put, List.setIfInBounds_toArray, List.set_cons_zero, List.set_cons_succ])
      refine takeH (i := 1) (v := ?_) rfl (by kernel_rfl) (by kernel_rfl) (by kernel_rfl) (fun _ _ _ h => h) (Or.inl ⟨by rfl, ?_⟩) (by assumption) ?_
      rotate_left
      · (intro w hSw; (try dsimp only at hSw); go_simp; first | done | with_reducible rfl)
      (try simp only [Act.put, List.setIfInBounds_toArray, List.set_cons_zero, List.set_cons_succ])
      refine takeH (i := 2) (v := ?_) rfl (by kernel_rfl) (by kernel_rfl) (by kernel_rfl) (fun _ _ _ h => h) (Or.inl ⟨by rfl, ?_⟩) (by assumption) ?_
      rotate_left
      · (intro w hSw; (try dsimp only at hSw); go_simp; first | done | with_reducible rfl)
      (try simp only [Act.put, List.setIfInBounds_toArray, List.set_cons_zero, List.set_cons_succ])
      refine takeH (i := 3) (v := ?_) rfl (by kernel_rfl) (by kernel_rfl) (by kernel_rfl) (fun _ _ _ h => h) (Or.inl ⟨by rfl, ?_⟩) (by assumption) ?_
      rotate_left
      · (intro w hSw; (try dsimp only at hSw); have hi := HJ0.out; go_simp; first | done | with_reducible rfl)
      (try simp only [Act.put, List.setIfInBounds_toArray, List.set_cons_zero, List.set_cons_succ])
      refine takeH (i := 4) (v := ?_) rfl (by kernel_rfl) (by kernel_rfl) (by kernel_rfl) (fun _ _ _ h => h) (Or.inl ⟨by rfl, ?_⟩) (by assumption) ?_
      rotate_left
      · (intro w hSw; (try dsimp only at hSw); have hc := HC0.out w hSw; go_simp; first | done | with_reducible rfl)
      (try simp only [Act.put, List.setIfInBounds_toArray, List.set_cons_zero, List.set_cons_succ])
      refine takeH (i := 5) (v := ?_) rfl (by kernel_rfl) (by kernel_rfl) (by kernel_rfl) (fun _ _ _ h => h) (Or.inl ⟨by rfl, ?_⟩) (by assumption) ?_
      rotate_left
      · (intro w hSw; (try dsimp only at hSw); go_simp; first | done | with_reducible rfl)
      (try simp only [Act.put, List.setIfInBounds_toArray, List.set_cons_zero, List.set_cons_succ])
      refine takeH (i := 6) (v := ?_) rfl (by kernel_rfl) (by kernel_rfl) (by kernel_rfl) (fun _ _ _ h => h) (Or.inl ⟨by rfl, ?_⟩) (by assumption) ?_
      rotate_left
      · (intro w hSw; (try dsimp only at hSw); go_simp; first | done | with_reducible rfl)
      (try simp only [Act.put, List.setIfInBounds_toArray, List.set_cons_zero, List.set_cons_succ])
      refine takeH (i := 7) (v := ?_) rfl (by kernel_rfl) (by kernel_rfl) (by kernel_rfl) (fun _ _ _ h => h) (Or.inl ⟨by rfl, ?_⟩) (by assumption) ?_
      rotate_left
      · (intro w hSw; (try dsimp only at hSw); go_simp; first | done | with_reducible rfl)
      (try simp only [Act.put, List.setIfInBounds_toArray, List.set_cons_zero, List.set_cons_succ])
      refine takeH (i := 8) (v := ?_) rfl (by kernel_rfl) (by kernel_rfl) (by kernel_rfl) (fun _ _ _ h => h) (Or.inl ⟨by rfl, ?_⟩) (by assumption) ?_
      rotate_left
      · (intro w hSw; (try dsimp only at hSw); go_simp; first | done | with_reducible rfl)
      (try simp only [Act.put, List.setIfInBounds_toArray, List.set_cons_zero, List.set_cons_succ])
      refine takeH (i := 9) (v := ?_) rfl (by kernel_rfl) (by kernel_rfl) (by kernel_rfl) (fun _ _ _ h => h) (Or.inl ⟨by rfl, ?_⟩) (by assumption) ?_
      rotate_left
      · (intro w hSw; (try dsimp only at hSw); have hi := HJ1.out; go_simp; first | done | with_reducible rfl)
      (try simp only [Act.put, List.setIfInBounds_toArray, List.set_cons_zero, List.set_cons_succ])
      refine takeH (i := 10) (v := ?_) rfl (by kernel_rfl) (by kernel_rfl) (by kernel_rfl) (fun _ _ _ h => h) (Or.inl ⟨by rfl, ?_⟩) (by assumption) ?_
      rotate_left
      · (intro w hSw; (try dsimp only at hSw); have hc := HC1.out w hSw; go_simp; first | done | with_reducible rfl)
      (try simp only [Act.put, List.setIfInBounds_toArray, List.set_cons_zero, List.set_cons_succ])
      refine takeH (i := 11) (v := ?_) rfl (by kernel_rfl) (by kernel_rfl) (by kernel_rfl) (fun _ _ _ h => h) (Or.inl ⟨by rfl, ?_⟩) (by assumption) ?_
      rotate_left
      · (intro w hSw; (try dsimp only at hSw); go_simp; first | done | with_reducible rfl)
      (try simp only [Act.put, List.setIfInBounds_toArray, List.set_cons_zero, List.set_cons_succ])
      refine takeH (i := 12) (v := ?_) rfl (by kernel_rfl) (by kernel_rfl) (by kernel_rfl) (fun _ _ _ h => h) (Or.inl ⟨by rfl, ?_⟩) (by assumption) ?_
      rotate_left
      · (intro w hSw; (try dsimp only at hSw); go_simp; first | done | with_reducible rfl)
      (try simp only [Act.put, List.setIfInBounds_toArray, List.set_cons_zero, List.set_cons_succ])
      refine takeH (i := 13) (v := ?_) rfl (by kernel_rfl) (by kernel_rfl) (by kernel_rfl) (fun _ _ _ h => h) (Or.inl ⟨by rfl, ?_⟩) (by assumption) ?_
      rotate_left
      · (intro w hSw; (try dsimp only at hSw); go_simp; first | done | with_reducible rfl)
      (try simp only [Act.put, List.setIfInBounds_toArray, List.set_cons_zero, List.set_cons_succ])
      refine takeH (i := 14) (v := ?_) rfl (by kernel_rfl) (by kernel_rfl) (by kernel_rfl) (fun _ _ _ h => h) (Or.inl ⟨by rfl, ?_⟩) (by assumption) ?_
      rotate_left
      · (intro w hSw; (try dsimp only at hSw); go_simp; first | done | with_reducible rfl)
      (try simp only [Act.put, List.setIfInBounds_toArray, List.set_cons_zero, List.set_cons_succ])
      refine takeH (i := 15) (v := ?_) rfl (by kernel_rfl) (by kernel_rfl) (by kernel_rfl) (fun _ _ _ h => h) (Or.inl ⟨by rfl, ?_⟩) (by assumption) ?_
      rotate_left
      · (intro w hSw; (try dsimp only at hSw); have hi := HJ2.out; go_simp; first | done | with_reducible rfl)
      (try simp only [Act.put, List.setIfInBounds_toArray, List.set_cons_zero, List.set_cons_succ])
      refine takeH (i := 16) (v := ?_) rfl (by kernel_rfl) (by kernel_rfl) (by kernel_rfl) (fun _ _ _ h => h) (Or.inl ⟨by rfl, ?_⟩) (by assumption) ?_
      rotate_left
      · (intro w hSw; (try dsimp only at hSw); have hc := HC2.out w hSw; go_simp; first | done | with_reducible rfl)
      (try simp only [Act.put, List.setIfInBounds_toArray, List.set_cons_zero, List.set_cons_succ])
      refine takeH (i := 17) (v := ?_) rfl (by kernel_rfl) (by kernel_rfl) (by kernel_rfl) (fun _ _ _ h => h) (Or.inl ⟨by rfl, ?_⟩) (by assumption) ?_
      rotate_left
      · (intro w hSw; (try dsimp only at hSw); go_simp; first | done | with_reducible rfl)
      (try simp only [Act.put, List.setIfInBounds_toArray, List.set_cons_zero, List.set_cons_succ])
      refine takeH (i := 18) (v := ?_) rfl (by kernel_rfl) (by kernel_rfl) (by kernel_rfl) (fun _ _ _ h => h) (Or.inl ⟨by rfl, ?_⟩) (by assumption) ?_
      rotate_left
      · (intro w hSw; (try dsimp only at hSw); go_simp; first | done | with_reducible rfl)
      (try simp only [Act.put, List.setIfInBounds_toArray, List.set_cons_zero, List.set_cons_succ])
      refine wpAnyH_ready (rs := [19]) (by kernel_rfl) (by simp) ?_
      refine stepH rfl (fun K hK => ?_) AllReadyH.nil
      go_simp
      have hfz := below_fresh wa (.cells #[.slice none 0 0, .int .i64 0, .int .i64 0, .int .i64 0] 26)
      have hG := heap_alloc_new wa (.cells #[.slice none 0 0, .int .i64 0, .int .i64 0, .int .i64 0] 26)
      have hlt : w.heap.size < wa.heap.size := (Array.getElem?_eq_some_iff.1 HZ2.out).1
      replace ha := ha.below hfz
      replace HZ2 := Lib.hid (below_block HZ2.out hfz)
      replace HB2 := Lib.hid (bnext HB2.out hfz)
      refine hK.out _ _ (ha) (fun _ => ?_)
      clear hK K
      (try simp only [Act.put, List.setIfInBounds_toArray, List.set_cons_zero, List.set_cons_succ])
      generalize wa.alloc (.cells #[.slice none 0 0, .int .i64 0, .int .i64 0, .int .i64 0] 26) = wb at ha HZ2 HB2 hG ⊢
      clear hfz
      generalize wa.heap.size = pb at hG hlt ⊢
      refine wpAnyH_ready (rs := [20]) (by kernel_rfl) (by simp) ?_
      refine stepH rfl (fun K hK => ?_) AllReadyH.nil
      obtain ⟨⟨q0, q1, q2, q3⟩, g0, g1, g2, g3⟩ := row4_at hG
      go_simp
      have hput := row4_put hG (.slice none 0 0) (.int .i64 a) (.int .i64 b) (.int .i64 c) pb (Nat.le_refl _)
      have hon := onlyc4 (w := wb) (g := pb) (.slice none 0 0) (.int .i64 a) (.int .i64 b) (.int .i64 c)
      replace ha := ownG_only ha hG (by decide) hon
      refine hK.out _ _ (ha) (fun _ => ?_)
      clear hK K
      (try simp only [Act.put, List.setIfInBounds_toArray, List.set_cons_zero, List.set_cons_succ])
      clear q0 q1 q2 q3 g0 g1 g2 g3
      refine wpAnyH_done (by kernel_rfl) ?_ _
      have HPB := Lib.hid hlt
      have HG5 := Lib.hid (show ((((wb.setCell ⟨pb, 0, none⟩ (.slice none 0 0)).setCell ⟨pb, 1, none⟩ (.int .i64 a)).setCell ⟨pb, 2, none⟩ (.int .i64 b)).setCell ⟨pb, 3, none⟩ (.int .i64 c)).heap[pb]? = some (gBox (.slice none 0 0) a b c) from hput.1)
      have HZ5 := Lib.hid (hon.at HZ2.out (by omega))
      have HB5 := Lib.hid (HB2.out.trans (hon.below (by omega) HB2.out.size))
      have HH5 := Lib.hid ha
      clear hput hon hG hlt ha HZ2 HB2 HC0 HC1 HC2 HJ0 HJ1 HJ2 hw1 hw2 hw3
      generalize ((((wb.setCell ⟨pb, 0, none⟩ (.slice none 0 0)).setCell ⟨pb, 1, none⟩ (.int .i64 a)).setCell ⟨pb, 2, none⟩ (.int .i64 b)).setCell ⟨pb, 3, none⟩ (.int .i64 c)) = w3 at HG5 HZ5 HB5 HH5 ⊢
      have HM5 := Lib.hid (show OwnM w3.heap.size w3 (.slice none 0 0) (ms.take 0) from OwnG.nil hlM _ _ _)
      have HS5 := Lib.hid (Nat.le_refl w3.heap.size)
      have HWB := Lib.hid HB5.out.size
      have HPB3 := Lib.hid (show pb < w3.heap.size from (Array.getElem?_eq_some_iff.1 HG5.out).1)
      go_wp2
      go_loopw [12] (fun i wr => ∃ (j : Nat) (sl : Value), j ≤ m ∧ i = .int .i64 j ∧ Hid (wr.heap[w.heap.size]? = some (gBox (.slice none 0 0) 0 0 0)) ∧ Hid (wr.heap[pb]? = some (gBox sl a b c)) ∧ Hid (OwnM w3.heap.size wr sl (ms.take j)) ∧ Hid (Below w.heap.size w wr) ∧ Hid (w3.heap.size ≤ wr.heap.size) ∧ Hid (OwnI w0.heap.size wr (.slice hda hdn hdc) (flat ms ++ [a, b, c]))) (fun i _ => m - (intOf i).toNat)
      case atStart => exact ⟨0, _, Nat.zero_le _, rfl, HZ5, HG5, HM5, HB5, HS5, HH5⟩
      case round =>
        clear HZ5 HG5 HM5 HB5 HS5 HH5
        obtain ⟨j, sl, hj, rfl, HZ5, HG5, HM5, HB5, HS5, HH5⟩ := hrel
        obtain ⟨sa, slen, sc, hvs⟩ : ∃ a l c, sl = .slice a l c := by obtain ⟨a, c, h, _⟩ := HM5.out.rd.shape; exact ⟨a, _, c, h⟩
        subst hvs
        by_cases hlt : j < m
        · have hq : (j : Int) < (m : Int) := by omega
          have hjb : (j : Int) ≤ 12 := by omega
          obtain ⟨⟨x, t⟩, hx⟩ : ∃ e : Mem, ms[j]? = some e := ⟨_, List.getElem?_eq_getElem (by have := HMS.out; omega)⟩
          have hfa := flat_at ms [a, b, c] j x t hx
          obtain ⟨bx0, ox0, hj0, _, _⟩ := atI HH5.out.rd (2 * j) x hfa.1
          obtain ⟨bx1, ox1, hj1, _, _⟩ := atI HH5.out.rd (2 * j + 1) t hfa.2
          have HC0 := Lib.hid (fun w' (ho : OwnI w0.heap.size w' (.slice hda hdn hdc) (flat ms ++ [a, b, c])) => atI_cell ho.rd _ _ hfa.1 hj0)
          have HC1 := Lib.hid (fun w' (ho : OwnI w0.heap.size w' (.slice hda hdn hdc) (flat ms ++ [a, b, c])) => atI_cell ho.rd _ _ hfa.2 hj1)
          rw [show ((2 * j : Nat) : Int) = 2 * (j : Int) by omega] at hj0
          rw [show ((2 * j + 1 : Nat) : Int) = 2 * (j : Int) + 1 by omega] at hj1
          have HJ0 := Lib.hid hj0
          have HJ1 := Lib.hid hj1
          have HSN := Lib.hid (show ms.take (j + 1) = ms.take j ++ [(x, t)] by rw [List.take_add_one, hx]; rfl)
          have HLN := Lib.hid (show (ms.take j).length ≤ 1073741824 by rw [List.length_take]; omega)
          have hw1 : IntKind.i64.wrap (2 * (j : Int)) = 2 * (j : Int) := IntWalk.i64_in _ (by omega)
          have hw2 : IntKind.i64.wrap (2 * (j : Int) + 1) = 2 * (j : Int) + 1 := IntWalk.i64_in _ (by omega)
          clear hx hfa hj0 hj1
          go_wp2
          refine wp_region_held_drew (S := fun w' => OwnI w0.heap.size w' (.slice hda hdn hdc) (flat ms ++ [a, b, c])) (by kernel_rfl) (by first | exact HH5.out | exact HH5.out) (fun _ => ?_)
          replace HZ5 := Lib.hid (show wr.drew.heap[w.heap.size]? = some (gBox (.slice none 0 0) 0 0 0) from by first | exact HZ5.out | (have hq : Below wr.heap.size wr wr.drew := (Below.refl _ wr).drew; exact below_block HZ5.out hq))
          replace HB5 := Lib.hid (show Below w.heap.size w wr.drew from by first | exact HB5.out | (have hq : Below wr.heap.size wr wr.drew := (Below.refl _ wr).drew; exact HB5.out.trans (hq.mono HB5.out.size)))
          replace HS5 := Lib.hid (show w3.heap.size ≤ wr.drew.heap.size from by first | exact HS5.out | (have hq : Below wr.heap.size wr wr.drew := (Below.refl _ wr).drew; exact Nat.le_trans HS5.out hq.size))
          replace HH5 := Lib.hid (show OwnI w0.heap.size wr.drew (.slice hda hdn hdc) (flat ms ++ [a, b, c]) from by first | exact HH5.out | (have hq : Below wr.heap.size wr wr.drew := (Below.refl _ wr).drew; exact HH5.out.below hq))
          replace HM5 := Lib.hid (show OwnM w3.heap.size wr.drew (.slice sa slen sc) (ms.take j) from HM5.out)
          replace HG5 := Lib.hid (show wr.drew.heap[pb]? = some (gBox (.slice sa slen sc) a b c) from HG5.out)
          have hS : OwnI w0.heap.size wr.drew (.slice hda hdn hdc) (flat ms ++ [a, b, c]) := HH5.out
          generalize wr.drew = wa at HZ5 HB5 HS5 HH5 HM5 HG5 hS ⊢
          refine takeH (i := 0) (v := ?_) rfl (by kernel_rfl) (by kernel_rfl) (by kernel_rfl) (fun _ _ _ h => h) (Or.inl ⟨by rfl, ?_⟩) (by assumption) ?_
          rotate_left
          · (intro w hSw; (try dsimp only at hSw); go_simp; first | done | with_reducible rfl)
          (try simp only [Act.put, List.setIfInBounds_toArray, List.set_cons_zero, List.set_cons_succ])
          refine takeH (i := 2) (v := ?_) rfl (by kernel_rfl) (by kernel_rfl) (by kernel_rfl) (fun _ _ _ h => h) (Or.inl ⟨by rfl, ?_⟩) (by assumption) ?_
          rotate_left
          · (intro w hSw; (try dsimp only at hSw); go_simp; first | done | with_reducible rfl)
          (try simp only [Act.put, List.setIfInBounds_toArray, List.set_cons_zero, List.set_cons_succ])
          refine takeH (i := 3) (v := ?_) rfl (by kernel_rfl) (by kernel_rfl) (by kernel_rfl) (fun _ _ _ h => h) (Or.inl ⟨by rfl, ?_⟩) (by assumption) ?_
          rotate_left
          · (intro w hSw; (try dsimp only at hSw); go_simp; first | done | with_reducible rfl)
          (try simp only [Act.put, List.setIfInBounds_toArray, List.set_cons_zero, List.set_cons_succ])
          refine takeH (i := 4) (v := ?_) rfl (by kernel_rfl) (by kernel_rfl) (by kernel_rfl) (fun _ _ _ h => h) (Or.inl ⟨by rfl, ?_⟩) (by assumption) ?_
          rotate_left
          · (intro w hSw; (try dsimp only at hSw); go_simp; first | done | with_reducible rfl)
          (try simp only [Act.put, List.setIfInBounds_toArray, List.set_cons_zero, List.set_cons_succ])
          refine takeH (i := 5) (v := ?_) rfl (by kernel_rfl) (by kernel_rfl) (by kernel_rfl) (fun _ _ _ h => h) (Or.inl ⟨by rfl, ?_⟩) (by assumption) ?_
          rotate_left
          · (intro w hSw; (try dsimp only at hSw); have hi := HJ0.out; go_simp; first | done | with_reducible rfl)
          (try simp only [Act.put, List.setIfInBounds_toArray, List.set_cons_zero, List.set_cons_succ])
          refine takeH (i := 6) (v := ?_) rfl (by kernel_rfl) (by kernel_rfl) (by kernel_rfl) (fun _ _ _ h => h) (Or.inl ⟨by rfl, ?_⟩) (by assumption) ?_
          rotate_left
          · (intro w hSw; (try dsimp only at hSw); have hc := HC0.out w hSw; go_simp; first | done | with_reducible rfl)
          (try simp only [Act.put, List.setIfInBounds_toArray, List.set_cons_zero, List.set_cons_succ])
          refine takeH (i := 7) (v := ?_) rfl (by kernel_rfl) (by kernel_rfl) (by kernel_rfl) (fun _ _ _ h => h) (Or.inl ⟨by rfl, ?_⟩) (by assumption) ?_
          rotate_left
          · (intro w hSw; (try dsimp only at hSw); go_simp; first | done | with_reducible rfl)
          (try simp only [Act.put, List.setIfInBounds_toArray, List.set_cons_zero, List.set_cons_succ])
          refine takeH (i := 8) (v := ?_) rfl (by kernel_rfl) (by kernel_rfl) (by kernel_rfl) (fun _ _ _ h => h) (Or.inl ⟨by rfl, ?_⟩) (by assumption) ?_
          rotate_left
          · (intro w hSw; (try dsimp only at hSw); go_simp; first | done | with_reducible rfl)
          (try simp only [Act.put, List.setIfInBounds_toArray, List.set_cons_zero, List.set_cons_succ])
          refine takeH (i := 9) (v := ?_) rfl (by kernel_rfl) (by kernel_rfl) (by kernel_rfl) (fun _ _ _ h => h) (Or.inl ⟨by rfl, ?_⟩) (by assumption) ?_
          rotate_left
          · (intro w hSw; (try dsimp only at hSw); go_simp; first | done | with_reducible rfl)
          (try simp only [Act.put, List.setIfInBounds_toArray, List.set_cons_zero, List.set_cons_succ])
          refine takeH (i := 10) (v := ?_) rfl (by kernel_rfl) (by kernel_rfl) (by kernel_rfl) (fun _ _ _ h => h) (Or.inl ⟨by rfl, ?_⟩) (by assumption) ?_
          rotate_left
          · (intro w hSw; (try dsimp only at hSw); go_simp; first | done | with_reducible rfl)
          (try simp only [Act.put, List.setIfInBounds_toArray, List.set_cons_zero, List.set_cons_succ])
          refine takeH (i := 11) (v := ?_) rfl (by kernel_rfl) (by kernel_rfl) (by kernel_rfl) (fun _ _ _ h => h) (Or.inl ⟨by rfl, ?_⟩) (by assumption) ?_
          rotate_left
          · (intro w hSw; (try dsimp only at hSw); have hi := HJ1.out; go_simp; first | done | with_reducible rfl)
          (try simp only [Act.put, List.setIfInBounds_toArray, List.set_cons_zero, List.set_cons_succ])
          refine takeH (i := 12) (v := ?_) rfl (by kernel_rfl) (by kernel_rfl) (by kernel_rfl) (fun _ _ _ h => h) (Or.inl ⟨by rfl, ?_⟩) (by assumption) ?_
          rotate_left
          · (intro w hSw; (try dsimp only at hSw); have hc := HC1.out w hSw; go_simp; first | done | with_reducible rfl)
          (try simp only [Act.put, List.setIfInBounds_toArray, List.set_cons_zero, List.set_cons_succ])
          refine takeH (i := 13) (v := ?_) rfl (by kernel_rfl) (by kernel_rfl) (by kernel_rfl) (fun _ _ _ h => h) (Or.inl ⟨by rfl, ?_⟩) (by assumption) ?_
          rotate_left
          · (intro w hSw; (try dsimp only at hSw); go_simp; first | done | with_reducible rfl)
          (try simp only [Act.put, List.setIfInBounds_toArray, List.set_cons_zero, List.set_cons_succ])
          refine wpAnyH_ready (rs := [1, 14]) (by kernel_rfl) (by simp) ?_
          refine stepH rfl (fun K hK => ?_) (stepH rfl (fun K hK => ?_) AllReadyH.nil)
          · obtain ⟨⟨q0, q1, q2, q3⟩, _⟩ := row4_at (HG5.out)
            go_simp
            refine hK.out _ _ (HH5.out) (fun _ => ?_)
            clear hK K
            (try simp only [Act.put, List.setIfInBounds_toArray, List.set_cons_zero, List.set_cons_succ])
            clear q0 q1 q2 q3
            refine wpAnyH_ready (rs := [14]) (by kernel_rfl) (by simp) ?_
            refine stepH rfl (fun K hK => ?_) AllReadyH.nil
            go_simp
            refine hK.out _ _ ((by have hq := below_fresh wa (.cells #[.int .i64 x, .int .i64 t] 58); exact HH5.out.below hq)) (fun _ => ?_)
            clear hK K
            (try simp only [Act.put, List.setIfInBounds_toArray, List.set_cons_zero, List.set_cons_succ])
            refine wpAnyH_ready (rs := [15]) (by kernel_rfl) (by simp) ?_
            refine stepH rfl (fun K hK => ?_) AllReadyH.nil
            refine step_appG1 memE (x, t) rfl (.tmp 67) (.tmp 80) rfl (by rfl) HM5.out (by rfl) HLN.out HS5.out ?_
            intro vy wy hoy hb hk
            obtain ⟨ay, ly, cy, hvy⟩ : ∃ a l c, vy = .slice a l c := (by obtain ⟨a, c, h, _⟩ := hoy.rd.shape; exact ⟨a, _, c, h⟩)
            subst hvy
            replace HZ5 := Lib.hid (show wy.heap[w.heap.size]? = some (gBox (.slice none 0 0) 0 0 0) from hk.at HZ5.out (by decide))
            replace HB5 := Lib.hid (show Below w.heap.size w wy from HB5.out.trans (hb.mono (HWB.out)))
            replace HS5 := Lib.hid (show w3.heap.size ≤ wy.heap.size from Nat.le_trans HS5.out hb.size)
            replace HH5 := Lib.hid (show OwnI w0.heap.size wy (.slice hda hdn hdc) (flat ms ++ [a, b, c]) from ownG_keep HH5.out hk (by decide))
            replace HG5 := Lib.hid (hk.at HG5.out (by decide))
            replace HM5 := Lib.hid hoy
            replace hS : OwnI w0.heap.size wy (.slice hda hdn hdc) (flat ms ++ [a, b, c]) := HH5.out
            clear hoy hb hk
            refine hK.out _ _ (HH5.out) (fun _ => ?_)
            clear hK K
            (try simp only [Act.put, List.setIfInBounds_toArray, List.set_cons_zero, List.set_cons_succ])
            refine takeH (i := 16) (v := ?_) rfl (by kernel_rfl) (by kernel_rfl) (by kernel_rfl) (fun _ _ _ h => h) (Or.inl ⟨by rfl, ?_⟩) (by assumption) ?_
            rotate_left
            · (intro w hSw; (try dsimp only at hSw); go_simp; first | done | with_reducible rfl)
            (try simp only [Act.put, List.setIfInBounds_toArray, List.set_cons_zero, List.set_cons_succ])
            obtain ⟨⟨q0, q1, q2, q3⟩, g0, g1, g2, g3⟩ := row4_at HG5.out
            have hg8 : (wy.setCell ⟨pb, 0, none⟩ (.slice ay ly cy)).heap[pb]? = some (gBox (.slice ay ly cy) a b c) := heap_setCell_same wy _ 0 _ _ _ HG5.out
            have ho : Only (pb) wy (wy.setCell ⟨pb, 0, none⟩ (.slice ay ly cy)) := Only.set 0 _
            replace HM5 := Lib.hid (ownG_only HM5.out HG5.out (by decide) ho)
            replace HZ5 := Lib.hid (show (wy.setCell ⟨pb, 0, none⟩ (.slice ay ly cy)).heap[w.heap.size]? = some (gBox (.slice none 0 0) 0 0 0) from ho.at HZ5.out (by have := HPB.out; omega))
            replace HB5 := Lib.hid (show Below w.heap.size w (wy.setCell ⟨pb, 0, none⟩ (.slice ay ly cy)) from HB5.out.trans (ho.below (by have := HPB.out; omega) HB5.out.size))
            replace HS5 := Lib.hid (show w3.heap.size ≤ (wy.setCell ⟨pb, 0, none⟩ (.slice ay ly cy)).heap.size from Nat.le_trans HS5.out ho.size)
            replace HH5 := Lib.hid (show OwnI w0.heap.size (wy.setCell ⟨pb, 0, none⟩ (.slice ay ly cy)) (.slice hda hdn hdc) (flat ms ++ [a, b, c]) from ownG_only HH5.out HG5.out (by decide) ho)
            replace HG5 := Lib.hid hg8
            replace hS : OwnI w0.heap.size (wy.setCell ⟨pb, 0, none⟩ (.slice ay ly cy)) (.slice hda hdn hdc) (flat ms ++ [a, b, c]) := HH5.out
            clear hg8 ho
            refine wpAnyH_ready (rs := [17]) (by kernel_rfl) (by simp) ?_
            refine stepH rfl (fun K hK => ?_) AllReadyH.nil
            go_simp
            refine hK.out _ _ (HH5.out) (fun _ => ?_)
            clear hK K
            (try simp only [Act.put, List.setIfInBounds_toArray, List.set_cons_zero, List.set_cons_succ])
            refine wpAnyH_done (by kernel_rfl) ?_ _
            generalize (wy.setCell ⟨pb, 0, none⟩ (.slice ay ly cy)) = wz at HZ5 HB5 HS5 HH5 HM5 HG5 hS ⊢
            clear hS q0 q1 q2 q3 g0 g1 g2 g3
            go_wp2
            go_roundw
            case rel => exact ⟨j + 1, _, by omega, by go_num, HZ5, HG5, Lib.hid (by rw [HSN.out]; exact HM5.out), HB5, HS5, HH5⟩
            case measure => simp [intOf]; omega
          · go_simp
            refine hK.out _ _ ((by have hq := below_fresh wa (.cells #[.int .i64 x, .int .i64 t] 58); exact HH5.out.below hq)) (fun _ => ?_)
            clear hK K
            (try simp only [Act.put, List.setIfInBounds_toArray, List.set_cons_zero, List.set_cons_succ])
            refine wpAnyH_ready (rs := [1]) (by kernel_rfl) (by simp) ?_
            refine stepH rfl (fun K hK => ?_) AllReadyH.nil
            obtain ⟨⟨q0, q1, q2, q3⟩, _⟩ := row4_at (below_block HG5.out (below_fresh wa (.cells #[.int .i64 x, .int .i64 t] 58)))
            go_simp
            refine hK.out _ _ ((by have hq := below_fresh wa (.cells #[.int .i64 x, .int .i64 t] 58); exact HH5.out.below hq)) (fun _ => ?_)
            clear hK K
            (try simp only [Act.put, List.setIfInBounds_toArray, List.set_cons_zero, List.set_cons_succ])
            clear q0 q1 q2 q3
            refine wpAnyH_ready (rs := [15]) (by kernel_rfl) (by simp) ?_
            refine stepH rfl (fun K hK => ?_) AllReadyH.nil
            refine step_appG1 memE (x, t) rfl (.tmp 67) (.tmp 80) rfl (by rfl) HM5.out (by rfl) HLN.out HS5.out ?_
            intro vy wy hoy hb hk
            obtain ⟨ay, ly, cy, hvy⟩ : ∃ a l c, vy = .slice a l c := (by obtain ⟨a, c, h, _⟩ := hoy.rd.shape; exact ⟨a, _, c, h⟩)
            subst hvy
            replace HZ5 := Lib.hid (show wy.heap[w.heap.size]? = some (gBox (.slice none 0 0) 0 0 0) from hk.at HZ5.out (by decide))
            replace HB5 := Lib.hid (show Below w.heap.size w wy from HB5.out.trans (hb.mono (HWB.out)))
            replace HS5 := Lib.hid (show w3.heap.size ≤ wy.heap.size from Nat.le_trans HS5.out hb.size)
            replace HH5 := Lib.hid (show OwnI w0.heap.size wy (.slice hda hdn hdc) (flat ms ++ [a, b, c]) from ownG_keep HH5.out hk (by decide))
            replace HG5 := Lib.hid (hk.at HG5.out (by decide))
            replace HM5 := Lib.hid hoy
            replace hS : OwnI w0.heap.size wy (.slice hda hdn hdc) (flat ms ++ [a, b, c]) := HH5.out
            clear hoy hb hk
            refine hK.out _ _ (HH5.out) (fun _ => ?_)
            clear hK K
            (try simp only [Act.put, List.setIfInBounds_toArray, List.set_cons_zero, List.set_cons_succ])
            refine takeH (i := 16) (v := ?_) rfl (by kernel_rfl) (by kernel_rfl) (by kernel_rfl) (fun _ _ _ h => h) (Or.inl ⟨by rfl, ?_⟩) (by assumption) ?_
            rotate_left
            · (intro w hSw; (try dsimp only at hSw); go_simp; first | done | with_reducible rfl)
            (try simp only [Act.put, List.setIfInBounds_toArray, List.set_cons_zero, List.set_cons_succ])
            obtain ⟨⟨q0, q1, q2, q3⟩, g0, g1, g2, g3⟩ := row4_at HG5.out
            have hg8 : (wy.setCell ⟨pb, 0, none⟩ (.slice ay ly cy)).heap[pb]? = some (gBox (.slice ay ly cy) a b c) := heap_setCell_same wy _ 0 _ _ _ HG5.out
            have ho : Only (pb) wy (wy.setCell ⟨pb, 0, none⟩ (.slice ay ly cy)) := Only.set 0 _
            replace HM5 := Lib.hid (ownG_only HM5.out HG5.out (by decide) ho)
            replace HZ5 := Lib.hid (show (wy.setCell ⟨pb, 0, none⟩ (.slice ay ly cy)).heap[w.heap.size]? = some (gBox (.slice none 0 0) 0 0 0) from ho.at HZ5.out (by have := HPB.out; omega))
            replace HB5 := Lib.hid (show Below w.heap.size w (wy.setCell ⟨pb, 0, none⟩ (.slice ay ly cy)) from HB5.out.trans (ho.below (by have := HPB.out; omega) HB5.out.size))
            replace HS5 := Lib.hid (show w3.heap.size ≤ (wy.setCell ⟨pb, 0, none⟩ (.slice ay ly cy)).heap.size from Nat.le_trans HS5.out ho.size)
            replace HH5 := Lib.hid (show OwnI w0.heap.size (wy.setCell ⟨pb, 0, none⟩ (.slice ay ly cy)) (.slice hda hdn hdc) (flat ms ++ [a, b, c]) from ownG_only HH5.out HG5.out (by decide) ho)
            replace HG5 := Lib.hid hg8
            replace hS : OwnI w0.heap.size (wy.setCell ⟨pb, 0, none⟩ (.slice ay ly cy)) (.slice hda hdn hdc) (flat ms ++ [a, b, c]) := HH5.out
            clear hg8 ho
            refine wpAnyH_ready (rs := [17]) (by kernel_rfl) (by simp) ?_
            refine stepH rfl (fun K hK => ?_) AllReadyH.nil
            go_simp
            refine hK.out _ _ (HH5.out) (fun _ => ?_)
            clear hK K
            (try simp only [Act.put, List.setIfInBounds_toArray, List.set_cons_zero, List.set_cons_succ])
            refine wpAnyH_done (by kernel_rfl) ?_ _
            generalize (wy.setCell ⟨pb, 0, none⟩ (.slice ay ly cy)) = wz at HZ5 HB5 HS5 HH5 HM5 HG5 hS ⊢
            clear hS q0 q1 q2 q3 g0 g1 g2 g3
            go_wp2
            go_roundw
            case rel => exact ⟨j + 1, _, by omega, by go_num, HZ5, HG5, Lib.hid (by rw [HSN.out]; exact HM5.out), HB5, HS5, HH5⟩
            case measure => simp [intOf]; omega
        · have hq : ¬ ((j : Int) < (m : Int)) := by omega
          obtain rfl : j = m := by omega
          have hta : ms.take j = ms := List.take_of_length_le (by have := HMS.out; omega)
          rw [hta] at HM5
          have HVG := Lib.hid (rValGen (.slice sa slen sc) a b c ms wr HM5.out.rd)
          clear hta hlt hj
          obtain ⟨⟨q0, q1, q2, q3⟩, _⟩ := row4_at HG5.out
          go_wp2_with fail
          refine HVG.out.mono ?_
          rintro e w6 ⟨rfl, hb6⟩
          have HZ6 := Lib.hid (below_block HZ5.out hb6)
          have HG6 := Lib.hid (below_block HG5.out hb6)
          have HB6 := Lib.hid (bnext HB5.out hb6)
          have HM6 := Lib.hid (HM5.out.below hb6)
          clear hb6 q0 q1 q2 q3 HVG HZ5 HG5 HB5 HM5 HH5 HS5
          obtain ⟨⟨q0, q1, q2, q3⟩, _⟩ := row4_at HG6.out
          obtain ⟨⟨z0, z1, z2, z3⟩, f0, f1, f2, f3⟩ := row4_at HZ6.out
          generalize MM.errG a b c ms = E at HR2 ⊢
          by_cases hE : E = 0
          · subst hE
            have HFIN := Lib.hid (show R = (0, L + u, a, b, c, ms) from HR2.out)
            have hsb : (L : Int) + (u : Int) ≤ 9223372036854775807 := by have := HSUM.out; omega
            clear HR2
            go_wp2
            have hput := row4_put HZ6.out (.slice sa slen sc) (.int .i64 a) (.int .i64 b) (.int .i64 c) w.heap.size (Nat.le_refl _)
            have hon := onlyc4 (w := w6) (g := w.heap.size) (.slice sa slen sc) (.int .i64 a) (.int .i64 b) (.int .i64 c)
            refine rdg_ret rfl rfl rfl hput.1 rfl ⟨.slice sa slen sc, ?_, ?_, HB6.out.trans hput.2⟩
            · rw [HFIN.out]; simp
            · rw [HFIN.out]; exact (ownG_only HM6.out HZ6.out (by decide) hon).rd
          · have HFIN := Lib.hid (show R = gbad E by rw [HR2.out, if_pos hE])
            have hne' : (E != 0) = true := bne_t hE
            clear HR2 hE
            go_wp2
            have hput := row4_put HZ6.out (.slice none 0 0) (.int .i64 0) (.int .i64 0) (.int .i64 0) w.heap.size (Nat.le_refl _)
            refine rdg_ret rfl rfl rfl hput.1 rfl ⟨.slice none 0 0, ?_, ?_, HB6.out.trans hput.2⟩
            · rw [HFIN.out]; rfl
            · rw [HFIN.out]; exact RdG.nil hlM _

end Go.Proofs.Ytdipheijagjelaa
