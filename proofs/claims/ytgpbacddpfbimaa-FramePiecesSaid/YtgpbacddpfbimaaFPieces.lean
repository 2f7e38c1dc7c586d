/-
  The walk of the law FramePieces: it returns true. No conditions beyond that the arguments read as data.
-/
import Derived.Test.YtgpbacddpfbimaaReg
import Derived.Test.YtgpbacddpfbimaaFSplit
namespace Go.Proofs.Ytgpbacddpfbimaa
open Go.RowKit
open WM (Bytes)

/-- What a list of payloads that came in reads as: of bytes each. -/
theorem Rds.bytes {w : World} {us : List Value} {pss : List (List Int)} (h : Rds w us pss) : ∀ p ∈ pss, Bytes p := by
  induction h with
  | nil => intro p hp; cases hp
  | cons h1 _ ih =>
    intro p hp
    rcases List.mem_cons.1 hp with rfl | hp
    · exact h1.bytes
    · exact ih p hp
theorem RdL.bytes {w : World} {v : Value} {pss : List (List Int)} (h : RdL w v pss) : ∀ p ∈ pss, Bytes p := by
  obtain ⟨_, _, _, _, _, _, _, _, h5⟩ := h
  exact h5.bytes

/-- How many rounds are left. -/
def roundsLeft (L C : Nat) (q i : Value) : Nat := if (intOf q).toNat < L then C + 1 - (intOf i).toNat else 0
theorem roundsLeft_int (L C : Nat) (q i : Int) (a b : IntKind) : roundsLeft L C (.int a q) (.int b i) = if q.toNat < L then C + 1 - i.toNat else 0 := rfl
theorem rounds_less {L C : Nat} {q q' i i' : Int} {a b : IntKind} (h1 : q.toNat < L) (h2 : i.toNat ≤ C) (h3 : q'.toNat < L → i.toNat < i'.toNat) : roundsLeft L C (.int a q') (.int b i') < roundsLeft L C (.int a q) (.int b i) := by
  rw [roundsLeft_int, roundsLeft_int, if_pos h1]
  split
  · rename_i h
    have := h3 h
    omega
  · omega

set_option maxRecDepth 100000 in
set_option maxHeartbeats 8000000 in
theorem lPieces (v u : Value) (pss : List (List Int)) (cs : List Int) (w : World) (hv : RdL w v pss) (hu : Rd w u cs) :
    Calls Try.prog 11 #[v, u] w fun e w' => e = .returned (.bool true) ∧ Below w.heap.size w w' := by
  obtain ⟨a, c, rfl, hc, hlc⟩ := hv.shape
  obtain ⟨b, d, rfl, hd⟩ := hu.shape
  by_cases hbig : 20 < pss.length
  · clear hv hu
    go_enter Try.func11, Try.ntmps11
    go_wp2_with fail
    refine (awake2 _).mono ?_
    rintro e w1 ⟨rfl, hb⟩
    go_wp2
    go_ret
    exact ⟨rfl, hb⟩
  · have hbytes := Lib.hid hv.bytes
    have HV := Lib.hid hv
    have HAt := Lib.hid (fun k hk => hv.at k hk)
    have HU := Lib.hid hu
    clear hv hu
    go_enter Try.func11, Try.ntmps11
    go_wp2
    go_loopw [5, 6] (fun r i wr => ∃ (k : Nat) (ss : List Int), k ≤ pss.length ∧ i = .int .i64 k ∧ RdT wr r ss ∧ Hid (ss = FM.frames (pss.take k)) ∧ Hid (∀ p ∈ pss.take k, p.length ≤ 200) ∧ ss.length ≤ k * 208 ∧ Below w.heap.size w wr) (fun _ i _ => pss.length - (intOf i).toNat)
    case atStart => exact ⟨0, [], by omega, rfl, RdT.nil _, rfl, (fun p hp => by cases hp), by simp, Below.refl _ _⟩
    case round =>
      obtain ⟨k, ss, hk, rfl, hr, hfr, hsm, hsl, hb⟩ := hrel
      obtain ⟨ar, cr, rfl, hcr⟩ := hr.1.shape
      by_cases hkl : k = pss.length
      · subst hkl
        obtain ⟨w0, hw0⟩ : ∃ w0, w0 = wr := ⟨_, rfl⟩
        subst hw0
        have hss : ss = FM.frames pss := by rw [hfr.out, List.take_length]
        have hF := Lib.hid (show FM.feed ss = ([], 0, pss) by
          rw [hss]
          exact FM.feed_frames pss (fun p hp => ⟨hbytes.out p hp, by have := hsm.out p (by rw [List.take_length]; exact hp); omega⟩))
        have hL : ss.length ≤ 4160 := by omega
        have hn1 := below_fresh' w0 (.cells #[.slice none 0 0, .int .i64 0] 38)
        have hg1 := Lib.hid (split_new w0 (.slice none 0 0) (.int .i64 0))
        have hr1 := hr.below hn1
        have hb1 := hb.trans (hn1.mono hb.size)
        have hxb := Lib.hid hr.1.bytes
        have hgs : w.heap.size ≤ w0.heap.size := hb.size
        clear hfr hss hsm hsl hr hn1 hb hbytes HAt
        go_wp2_with fail
        go_loopw [9, 11, 12] (fun g q i wz => ∃ (k : Nat) (z : Int) (vB : Value) (bs : List Int) (f : Int) (ds : List (List Int)), q = .int .i64 k ∧ i = .int .i64 z ∧ k ≤ ss.length ∧ Hid (k < ss.length → ∃ j : Nat, z = j ∧ j ≤ cs.length) ∧ RdT wz vB bs ∧
          Hid (wz.heap[w0.heap.size]? = some (.cells #[vB, .int .i64 f] 38 (0, 0))) ∧ OwnL w.heap.size wz g ds ∧ RdT wz (.slice ar ss.length cr) ss ∧ Below w.heap.size w wz ∧ Hid (FM.feed (ss.take k) = (bs, f, ds)))
          (fun _ q i _ => roundsLeft ss.length cs.length q i)
        case atStart => exact ⟨0, 0, _, [], 0, [], rfl, rfl, by omega, (fun _ => ⟨0, rfl, by omega⟩), RdT.nil _, hg1.out, OwnL.nil _ _, hr1, hb1, FM.feed_wait (by rfl)⟩
        case round =>
          obtain ⟨k, z, vB, bs, f, ds, rfl, rfl, hk, hz, hB, hg, ho, hs, hbz, hfd⟩ := hrel
          by_cases hkl : k = ss.length
          · have hq : ¬ ((k : Int) < (ss.length : Int)) := by omega
            have hend := hfd.out
            rw [hkl, List.take_length, hF.out] at hend
            simp only [Prod.mk.injEq] at hend
            obtain ⟨rfl, rfl, rfl⟩ := hend
            obtain ⟨aB, cB, rfl, hcB⟩ := hB.1.shape
            have hsm := same_true _ _ pss wr ho.rdL (HV.out.below hbz)
            have HG := Lib.hid hg.out
            clear hB ho hs hfd hz hkl hg
            go_wp2_with fail
            refine hsm.mono ?_
            rintro e w6 ⟨rfl, hb10⟩
            have hb11 := hbz.trans (hb10.mono hbz.size)
            obtain ⟨q0, q1, _, _⟩ := split_at ((Below.keepsT hb10) _ _ _ _ (by decide) HG.out)
            clear hsm hbz hb10
            go_wp2_with fail
            refine (awake2 _).mono ?_
            rintro e w7 ⟨rfl, hb12⟩
            go_wp2
            go_ret
            exact ⟨rfl, hb11.trans (hb12.mono hb11.size)⟩
          · have hlt : k < ss.length := by omega
            have hq : (k : Int) < (ss.length : Int) := by omega
            obtain ⟨j, rfl, hj⟩ := hz.out hlt
            rcases Nat.lt_or_ge j cs.length with hjl | hjl
            · have hbu := HU.out.bytes
              rcases HU.out.cases with ⟨hnil, _⟩ | ⟨hp, b0, off, d0, hbe, _, _, _, hcu⟩
              · rw [hnil] at hjl; simp at hjl
              · cases hbe
                obtain ⟨y, hcy, hy, _⟩ := cell_at hbu hcu hjl
                have hcy2 := below_cell hbz hcy
                have hjq : ((j : Int) < (cs.length : Int)) := by omega
                have hjw : ¬ ((cs.length : Int) < (j : Int)) := by omega
                clear hcu hcy hz
                by_cases hmin : ss.length - k ≤ y
                · obtain ⟨n, hn⟩ : ∃ n, n = ss.length - k := ⟨_, rfl⟩
                  have hkn : k + n ≤ ss.length := by omega
                  have hmi : ((ss.length : Int) - (k : Int)) = (n : Int) := by omega
                  have hmy : (n : Int) ≤ (y : Int) := by omega
                  have hmy2 : min (n : Int) (y : Int) = (n : Int) := by omega
                  have hnL : ¬ k + n < ss.length := by omega
                  clear hn hmin
                  go_wp2_with fail
                  obtain ⟨aB, cB, rfl, hcB⟩ := hB.1.shape
                  obtain ⟨v1, hv1, hcut, hr1⟩ := hs.1.cut k (k + n) (by omega) hkn
                  rw [show ((k + n : Nat) : Int) = (k : Int) + (n : Int) by omega] at hcut
                  rw [show k + n - k = n by omega] at hr1
                  obtain ⟨T, hT⟩ : ∃ T, T = FM.next bs f ((ss.drop k).take n) := ⟨_, rfl⟩
                  have hTk : Hid (FM.feed (ss.take (k + n)) = (T.1, T.2.1, ds ++ T.2.2)) := by
                    show _ = _
                    rw [List.take_add, FM.feed_split _ (ss.take k) ((ss.drop k).take n) (Nat.le_refl _) (FM.bytes_take hxb.out k), hfd.out, hT]
                  have hbl : bs.length ≤ 4160 := by
                    have h3 := (FM.feed_bytes _ (ss.take k) (Nat.le_refl _) (FM.bytes_take hxb.out k)).2.1
                    rw [hfd.out, List.length_take] at h3
                    have h4 : bs.length ≤ min k ss.length := h3
                    omega
                  have hdl : ds.length + T.2.2.length ≤ 4160 := by
                    have h3 := (FM.feed_bytes _ (ss.take (k + n)) (Nat.le_refl _) (FM.bytes_take hxb.out _)).2.2.1
                    rw [hTk.out, List.length_take] at h3
                    have h4 : (ds ++ T.2.2).length ≤ min (k + n) ss.length := h3
                    rw [List.length_append] at h4
                    omega
                  have HDL := Lib.hid hdl
                  have HF := Lib.hid (fun (w1 : World) (hb : Below wr.heap.size wr w1) => feed_later (w0 := w1) hT hB.1 hr1 (by rw [List.length_take]; omega) hb)
                  obtain ⟨q0, q1, _, _⟩ := split_at hg.out
                  have hlt0 : w0.heap.size < wr.heap.size := (Array.getElem?_eq_some_iff.1 hg.out).1
                  have hne0 : ¬ w0.heap.size = wr.heap.size := by omega
                  have hne1 : ¬ wr.heap.size = w0.heap.size := by omega
                  have HS := Lib.hid hs
                  have HO := Lib.hid ho
                  have hwk : IntKind.i64.wrap ((k : Int) + (n : Int)) = (k : Int) + (n : Int) := by rw [IntKind.wrap_i64]; omega
                  clear hv1 hT hdl hr1 hs ho hB hfd hbl
                  refine wp_region_held_drew (S := (fun w' => w'.cell? ⟨w0.heap.size, 0, none⟩ = some (.slice aB bs.length cB) ∧ w'.cell? ⟨w0.heap.size, 1, none⟩ = some (.int .i64 f))) (by kernel_rfl) (⟨q0, q1⟩) (fun hHeld => ?_)
                  refine takeH (i := 1) (v := ?_) rfl (by kernel_rfl) (by kernel_rfl) (by kernel_rfl) (fun _ _ _ h => h) (Or.inl ⟨by rfl, ?_⟩) (by assumption) ?_
                  rotate_left
                  · (intro w hSw; (try dsimp only at hSw); go_simp; first | done | with_reducible rfl)
                  (try simp only [Act.put, List.setIfInBounds_toArray, List.set_cons_zero, List.set_cons_succ])
                  refine takeH (i := 2) (v := ?_) rfl (by kernel_rfl) (by kernel_rfl) (by kernel_rfl) (fun _ _ _ h => h) (Or.inl ⟨by rfl, ?_⟩) (by assumption) ?_
                  rotate_left
                  · (intro w hSw; (try dsimp only at hSw); go_simp; first | done | with_reducible rfl)
                  (try simp only [Act.put, List.setIfInBounds_toArray, List.set_cons_zero, List.set_cons_succ])
                  refine takeH (i := 3) (v := ?_) rfl (by kernel_rfl) (by kernel_rfl) (by kernel_rfl) (fun _ _ _ h => h) (Or.inl ⟨by rfl, ?_⟩) (by assumption) ?_
                  rotate_left
                  · (intro w hSw; (try dsimp only at hSw); go_simp; first | done | with_reducible rfl)
                  (try simp only [Act.put, List.setIfInBounds_toArray, List.set_cons_zero, List.set_cons_succ])
                  refine takeH (i := 4) (v := ?_) rfl (by kernel_rfl) (by kernel_rfl) (by kernel_rfl) (fun _ _ _ h => h) (Or.inl ⟨by rfl, ?_⟩) (by assumption) ?_
                  rotate_left
                  · (intro w hSw; (try dsimp only at hSw); go_simp; first | done | with_reducible rfl)
                  (try simp only [Act.put, List.setIfInBounds_toArray, List.set_cons_zero, List.set_cons_succ])
                  refine takeH (i := 5) (v := ?_) rfl (by kernel_rfl) (by kernel_rfl) (by kernel_rfl) (fun _ _ _ h => h) (Or.inl ⟨by rfl, ?_⟩) (by assumption) ?_
                  rotate_left
                  · (intro w hSw; (try dsimp only at hSw); go_simp; first | done | with_reducible rfl)
                  (try simp only [Act.put, List.setIfInBounds_toArray, List.set_cons_zero, List.set_cons_succ])
                  refine takeH (i := 6) (v := ?_) rfl (by kernel_rfl) (by kernel_rfl) (by kernel_rfl) (fun _ _ _ h => h) (Or.inl ⟨by rfl, ?_⟩) (by assumption) ?_
                  rotate_left
                  · (intro w hSw; (try dsimp only at hSw); go_simp; first | done | with_reducible rfl)
                  (try simp only [Act.put, List.setIfInBounds_toArray, List.set_cons_zero, List.set_cons_succ])
                  refine takeH (i := 0) (v := ?_) rfl (by kernel_rfl) (by kernel_rfl) (by kernel_rfl) (fun _ _ _ h => h) (Or.inl ⟨by rfl, ?_⟩) (by assumption) ?_
                  rotate_left
                  · (intro w hSw; (try dsimp only at hSw); go_simp; first | done | with_reducible rfl)
                  (try simp only [Act.put, List.setIfInBounds_toArray, List.set_cons_zero, List.set_cons_succ])
                  refine wpAnyH_ready (rs := [7, 11]) (by kernel_rfl) (by simp) ?_
                  refine stepH rfl (fun K hK => ?_) (stepH rfl (fun K hK => ?_) AllReadyH.nil)
                  · go_simp
                    refine (HF.out _ ((Below.refl _ _).drew)).mono ?_
                    rintro e wA ⟨vT, vK, rfl, hT4, hK4, hbA, hbT⟩
                    obtain ⟨aT, cT, rfl, hcT⟩ := hT4.1.shape
                    have hgB := (Below.keepsT hbT) _ _ _ _ (by decide) hg.out
                    obtain ⟨f0, f1, _, _⟩ := split_at hgB
                    go_wp2_with fail
                    refine hK.out _ _ (⟨f0, f1⟩) (fun hHeld => ?_)
                    clear hK K
                    (try simp only [Act.put, List.setIfInBounds_toArray, List.set_cons_zero, List.set_cons_succ])
                    refine takeH (i := 8) (v := ?_) rfl (by kernel_rfl) (by kernel_rfl) (by kernel_rfl) (fun _ _ _ h => h) (Or.inl ⟨by rfl, ?_⟩) (by assumption) ?_
                    rotate_left
                    · (intro w hSw; (try dsimp only at hSw); go_simp; first | done | with_reducible rfl)
                    (try simp only [Act.put, List.setIfInBounds_toArray, List.set_cons_zero, List.set_cons_succ])
                    refine takeH (i := 9) (v := ?_) rfl (by kernel_rfl) (by kernel_rfl) (by kernel_rfl) (fun _ _ _ h => h) (Or.inl ⟨by rfl, ?_⟩) (by assumption) ?_
                    rotate_left
                    · (intro w hSw; (try dsimp only at hSw); go_simp; first | done | with_reducible rfl)
                    (try simp only [Act.put, List.setIfInBounds_toArray, List.set_cons_zero, List.set_cons_succ])
                    refine takeH (i := 10) (v := ?_) rfl (by kernel_rfl) (by kernel_rfl) (by kernel_rfl) (fun _ _ _ h => h) (Or.inl ⟨by rfl, ?_⟩) (by assumption) ?_
                    rotate_left
                    · (intro w hSw; (try dsimp only at hSw); go_simp; first | done | with_reducible rfl)
                    (try simp only [Act.put, List.setIfInBounds_toArray, List.set_cons_zero, List.set_cons_succ])
                    refine wpAnyH_ready (rs := [11]) (by kernel_rfl) (by simp) ?_
                    refine stepH rfl (fun K hK => ?_) AllReadyH.nil
                    go_simp
                    refine hK.out _ _ (⟨below_cell (below_fresh' _ _) f0, below_cell (below_fresh' _ _) f1⟩) (fun hHeld => ?_)
                    clear hK K
                    (try simp only [Act.put, List.setIfInBounds_toArray, List.set_cons_zero, List.set_cons_succ])
                    refine wpAnyH_ready (rs := [12]) (by kernel_rfl) (by simp) ?_
                    refine stepH rfl (fun K hK => ?_) AllReadyH.nil
                    go_simp
                    refine hK.out _ _ (⟨below_cell (below_fresh' _ _) f0, below_cell (below_fresh' _ _) f1⟩) (fun hHeld => ?_)
                    clear hK K
                    (try simp only [Act.put, List.setIfInBounds_toArray, List.set_cons_zero, List.set_cons_succ])
                    refine takeH (i := 13) (v := ?_) rfl (by kernel_rfl) (by kernel_rfl) (by kernel_rfl) (fun _ _ _ h => h) (Or.inl ⟨by rfl, ?_⟩) (by assumption) ?_
                    rotate_left
                    · (intro w hSw; (try dsimp only at hSw); go_simp; first | done | with_reducible rfl)
                    (try simp only [Act.put, List.setIfInBounds_toArray, List.set_cons_zero, List.set_cons_succ])
                    refine wpAnyH_done (by kernel_rfl) ?_ _
                    have hnA := below_fresh' wA (.cells #[.slice aT T.1.length cT, .int .i64 T.2.1] 38)
                    have hgT := split_new wA (.slice aT T.1.length cT) (.int .i64 T.2.1)
                    have hbW := hbT.trans (hnA.mono hbT.size)
                    have hT5 := hT4.below hnA
                    have hK5 := hK4.below hnA
                    have hgC := (Below.keepsT hnA) _ _ _ _ (by decide) hgB
                    obtain ⟨pT0, pT1, _, _⟩ := split_at hgT
                    clear hnA hgT hbT hT4 hK4 hbA hgB f0 f1 q0 q1
                    generalize wA.alloc (.cells #[.slice aT T.1.length cT, .int .i64 T.2.1] 38) = wz at hbW hT5 hK5 pT0 pT1 hgC ⊢
                    have hS5 := HS.out.below hbW
                    have hO5 := HO.out.below hbW
                    obtain ⟨r0, r1, r2, r3⟩ := split_at hgC
                    obtain ⟨g7, k7, b7⟩ := split_put hgC (.slice aT T.1.length cT) (.int .i64 T.2.1) w.heap.size hgs
                    have hb5 := hbz.trans ((hbW.mono hbz.size).trans b7)
                    have hO6 := hO5.keepS k7
                    have hK6 := hK5.keepS k7
                    have HT6 := Lib.hid (hT5.keepS k7)
                    have HS6 := Lib.hid (hS5.keepS k7)
                    have HG7 := Lib.hid g7
                    have hs5 := hb5.size
                    clear hS5 hO5 hK5 hT5 g7 k7 b7 hbW hbz HS HO HF hg hlt0 hne0 hne1 hgC
                    go_wp2_with (at_builtin; refine wp_appLS rfl _ _ rfl rfl hO6 rfl hK6 (by have := HDL.out; omega) (by have := HDL.out; omega) hs5 ?_)
                    intro v8 w8 ho8 hb8 hk8
                    have hT9 := HT6.out.keep hk8
                    have hS9 := HS6.out.keep hk8
                    have hg9 := Lib.hid (hk8 _ _ _ _ (by decide) HG7.out)
                    have hb9 := hb5.trans hb8
                    clear hO6 hK6 hs5 hk8 hb5 hb8 pT0 pT1 r0 r1 r2 r3
                    go_wp2
                    go_roundw
                    case rel => exact ⟨k + n, _, _, _, _, _, (by go_num), rfl, hkn, (fun h => by first | exact absurd h (by omega) | exact ⟨j + 1, by omega, by omega⟩), hT9, hg9, ho8, hS9, hb9, hTk⟩
                    case measure =>
                      refine rounds_less (by omega) (by omega) (fun h => ?_)
                      first | exact absurd h (by omega) | omega
                  · go_simp
                    refine hK.out _ _ (⟨below_cell (below_fresh' _ _).drew q0, below_cell (below_fresh' _ _).drew q1⟩) (fun hHeld => ?_)
                    clear hK K
                    (try simp only [Act.put, List.setIfInBounds_toArray, List.set_cons_zero, List.set_cons_succ])
                    refine wpAnyH_ready (rs := [7]) (by kernel_rfl) (by simp) ?_
                    refine stepH rfl (fun K hK => ?_) AllReadyH.nil
                    go_simp
                    refine (HF.out _ (((Below.refl _ _).drew).alloc (by simp) _)).mono ?_
                    rintro e wA ⟨vT, vK, rfl, hT4, hK4, hbA, hbT⟩
                    obtain ⟨aT, cT, rfl, hcT⟩ := hT4.1.shape
                    have hgB := (Below.keepsT hbT) _ _ _ _ (by decide) hg.out
                    obtain ⟨f0, f1, _, _⟩ := split_at hgB
                    have hgA := split_kept hbA
                    obtain ⟨e0, e1, e2, e3⟩ := split_at hgA
                    go_wp2_with fail
                    refine hK.out _ _ (⟨f0, f1⟩) (fun hHeld => ?_)
                    clear hK K
                    (try simp only [Act.put, List.setIfInBounds_toArray, List.set_cons_zero, List.set_cons_succ])
                    refine takeH (i := 8) (v := ?_) rfl (by kernel_rfl) (by kernel_rfl) (by kernel_rfl) (fun _ _ _ h => h) (Or.inl ⟨by rfl, ?_⟩) (by assumption) ?_
                    rotate_left
                    · (intro w hSw; (try dsimp only at hSw); go_simp; first | done | with_reducible rfl)
                    (try simp only [Act.put, List.setIfInBounds_toArray, List.set_cons_zero, List.set_cons_succ])
                    refine takeH (i := 9) (v := ?_) rfl (by kernel_rfl) (by kernel_rfl) (by kernel_rfl) (fun _ _ _ h => h) (Or.inl ⟨by rfl, ?_⟩) (by assumption) ?_
                    rotate_left
                    · (intro w hSw; (try dsimp only at hSw); go_simp; first | done | with_reducible rfl)
                    (try simp only [Act.put, List.setIfInBounds_toArray, List.set_cons_zero, List.set_cons_succ])
                    refine takeH (i := 10) (v := ?_) rfl (by kernel_rfl) (by kernel_rfl) (by kernel_rfl) (fun _ _ _ h => h) (Or.inl ⟨by rfl, ?_⟩) (by assumption) ?_
                    rotate_left
                    · (intro w hSw; (try dsimp only at hSw); go_simp; first | done | with_reducible rfl)
                    (try simp only [Act.put, List.setIfInBounds_toArray, List.set_cons_zero, List.set_cons_succ])
                    refine wpAnyH_ready (rs := [12]) (by kernel_rfl) (by simp) ?_
                    refine stepH rfl (fun K hK => ?_) AllReadyH.nil
                    go_simp
                    refine hK.out _ _ (⟨by rw [World.cell?_setCell_far _ _ _ _ hne1, World.cell?_setCell_far _ _ _ _ hne1]; exact f0, by rw [World.cell?_setCell_far _ _ _ _ hne1, World.cell?_setCell_far _ _ _ _ hne1]; exact f1⟩) (fun hHeld => ?_)
                    clear hK K
                    (try simp only [Act.put, List.setIfInBounds_toArray, List.set_cons_zero, List.set_cons_succ])
                    refine takeH (i := 13) (v := ?_) rfl (by kernel_rfl) (by kernel_rfl) (by kernel_rfl) (fun _ _ _ h => h) (Or.inl ⟨by rfl, ?_⟩) (by assumption) ?_
                    rotate_left
                    · (intro w hSw; (try dsimp only at hSw); go_simp; first | done | with_reducible rfl)
                    (try simp only [Act.put, List.setIfInBounds_toArray, List.set_cons_zero, List.set_cons_succ])
                    refine wpAnyH_done (by kernel_rfl) ?_ _
                    obtain ⟨g6, k6, b6⟩ := split_put hgA (.slice aT T.1.length cT) (.int .i64 T.2.1) wr.heap.size (Nat.le_refl _)
                    have hbW := hbT.trans b6
                    have hT5 := hT4.keepS k6
                    have hK5 := hK4.keepS k6
                    have hgC := (Below.keepsT hbW) _ _ _ _ (by decide) hg.out
                    obtain ⟨pT0, pT1, _, _⟩ := split_at g6
                    clear g6 k6 b6 hbT hT4 hK4 hbA hgB f0 f1 hgA e0 e1 e2 e3 q0 q1
                    generalize (wA.setCell ⟨wr.heap.size, 0, none⟩ (.slice aT T.1.length cT)).setCell ⟨wr.heap.size, 1, none⟩ (.int .i64 T.2.1) = wz at hbW hT5 hK5 pT0 pT1 hgC ⊢
                    have hS5 := HS.out.below hbW
                    have hO5 := HO.out.below hbW
                    obtain ⟨r0, r1, r2, r3⟩ := split_at hgC
                    obtain ⟨g7, k7, b7⟩ := split_put hgC (.slice aT T.1.length cT) (.int .i64 T.2.1) w.heap.size hgs
                    have hb5 := hbz.trans ((hbW.mono hbz.size).trans b7)
                    have hO6 := hO5.keepS k7
                    have hK6 := hK5.keepS k7
                    have HT6 := Lib.hid (hT5.keepS k7)
                    have HS6 := Lib.hid (hS5.keepS k7)
                    have HG7 := Lib.hid g7
                    have hs5 := hb5.size
                    clear hS5 hO5 hK5 hT5 g7 k7 b7 hbW hbz HS HO HF hg hlt0 hne0 hne1 hgC
                    go_wp2_with (at_builtin; refine wp_appLS rfl _ _ rfl rfl hO6 rfl hK6 (by have := HDL.out; omega) (by have := HDL.out; omega) hs5 ?_)
                    intro v8 w8 ho8 hb8 hk8
                    have hT9 := HT6.out.keep hk8
                    have hS9 := HS6.out.keep hk8
                    have hg9 := Lib.hid (hk8 _ _ _ _ (by decide) HG7.out)
                    have hb9 := hb5.trans hb8
                    clear hO6 hK6 hs5 hk8 hb5 hb8 pT0 pT1 r0 r1 r2 r3
                    go_wp2
                    go_roundw
                    case rel => exact ⟨k + n, _, _, _, _, _, (by go_num), rfl, hkn, (fun h => by first | exact absurd h (by omega) | exact ⟨j + 1, by omega, by omega⟩), hT9, hg9, ho8, hS9, hb9, hTk⟩
                    case measure =>
                      refine rounds_less (by omega) (by omega) (fun h => ?_)
                      first | exact absurd h (by omega) | omega
                · obtain ⟨n, hn⟩ : ∃ n, n = y := ⟨_, rfl⟩
                  subst hn
                  have hkn : k + n ≤ ss.length := by omega
                  have hmy : ¬ ((ss.length : Int) - (k : Int) ≤ (n : Int)) := by omega
                  have hmy2 : min ((ss.length : Int) - (k : Int)) (n : Int) = (n : Int) := by omega
                  clear hmin
                  go_wp2_with fail
                  obtain ⟨aB, cB, rfl, hcB⟩ := hB.1.shape
                  obtain ⟨v1, hv1, hcut, hr1⟩ := hs.1.cut k (k + n) (by omega) hkn
                  rw [show ((k + n : Nat) : Int) = (k : Int) + (n : Int) by omega] at hcut
                  rw [show k + n - k = n by omega] at hr1
                  obtain ⟨T, hT⟩ : ∃ T, T = FM.next bs f ((ss.drop k).take n) := ⟨_, rfl⟩
                  have hTk : Hid (FM.feed (ss.take (k + n)) = (T.1, T.2.1, ds ++ T.2.2)) := by
                    show _ = _
                    rw [List.take_add, FM.feed_split _ (ss.take k) ((ss.drop k).take n) (Nat.le_refl _) (FM.bytes_take hxb.out k), hfd.out, hT]
                  have hbl : bs.length ≤ 4160 := by
                    have h3 := (FM.feed_bytes _ (ss.take k) (Nat.le_refl _) (FM.bytes_take hxb.out k)).2.1
                    rw [hfd.out, List.length_take] at h3
                    have h4 : bs.length ≤ min k ss.length := h3
                    omega
                  have hdl : ds.length + T.2.2.length ≤ 4160 := by
                    have h3 := (FM.feed_bytes _ (ss.take (k + n)) (Nat.le_refl _) (FM.bytes_take hxb.out _)).2.2.1
                    rw [hTk.out, List.length_take] at h3
                    have h4 : (ds ++ T.2.2).length ≤ min (k + n) ss.length := h3
                    rw [List.length_append] at h4
                    omega
                  have HDL := Lib.hid hdl
                  have HF := Lib.hid (fun (w1 : World) (hb : Below wr.heap.size wr w1) => feed_later (w0 := w1) hT hB.1 hr1 (by rw [List.length_take]; omega) hb)
                  obtain ⟨q0, q1, _, _⟩ := split_at hg.out
                  have hlt0 : w0.heap.size < wr.heap.size := (Array.getElem?_eq_some_iff.1 hg.out).1
                  have hne0 : ¬ w0.heap.size = wr.heap.size := by omega
                  have hne1 : ¬ wr.heap.size = w0.heap.size := by omega
                  have HS := Lib.hid hs
                  have HO := Lib.hid ho
                  have hwk : IntKind.i64.wrap ((k : Int) + (n : Int)) = (k : Int) + (n : Int) := by rw [IntKind.wrap_i64]; omega
                  clear hv1 hT hdl hr1 hs ho hB hfd hbl
                  refine wp_region_held_drew (S := (fun w' => w'.cell? ⟨w0.heap.size, 0, none⟩ = some (.slice aB bs.length cB) ∧ w'.cell? ⟨w0.heap.size, 1, none⟩ = some (.int .i64 f))) (by kernel_rfl) (⟨q0, q1⟩) (fun hHeld => ?_)
                  refine takeH (i := 1) (v := ?_) rfl (by kernel_rfl) (by kernel_rfl) (by kernel_rfl) (fun _ _ _ h => h) (Or.inl ⟨by rfl, ?_⟩) (by assumption) ?_
                  rotate_left
                  · (intro w hSw; (try dsimp only at hSw); go_simp; first | done | with_reducible rfl)
                  (try simp only [Act.put, List.setIfInBounds_toArray, List.set_cons_zero, List.set_cons_succ])
                  refine takeH (i := 2) (v := ?_) rfl (by kernel_rfl) (by kernel_rfl) (by kernel_rfl) (fun _ _ _ h => h) (Or.inl ⟨by rfl, ?_⟩) (by assumption) ?_
                  rotate_left
                  · (intro w hSw; (try dsimp only at hSw); go_simp; first | done | with_reducible rfl)
                  (try simp only [Act.put, List.setIfInBounds_toArray, List.set_cons_zero, List.set_cons_succ])
                  refine takeH (i := 3) (v := ?_) rfl (by kernel_rfl) (by kernel_rfl) (by kernel_rfl) (fun _ _ _ h => h) (Or.inl ⟨by rfl, ?_⟩) (by assumption) ?_
                  rotate_left
                  · (intro w hSw; (try dsimp only at hSw); go_simp; first | done | with_reducible rfl)
                  (try simp only [Act.put, List.setIfInBounds_toArray, List.set_cons_zero, List.set_cons_succ])
                  refine takeH (i := 4) (v := ?_) rfl (by kernel_rfl) (by kernel_rfl) (by kernel_rfl) (fun _ _ _ h => h) (Or.inl ⟨by rfl, ?_⟩) (by assumption) ?_
                  rotate_left
                  · (intro w hSw; (try dsimp only at hSw); go_simp; first | done | with_reducible rfl)
                  (try simp only [Act.put, List.setIfInBounds_toArray, List.set_cons_zero, List.set_cons_succ])
                  refine takeH (i := 5) (v := ?_) rfl (by kernel_rfl) (by kernel_rfl) (by kernel_rfl) (fun _ _ _ h => h) (Or.inl ⟨by rfl, ?_⟩) (by assumption) ?_
                  rotate_left
                  · (intro w hSw; (try dsimp only at hSw); go_simp; first | done | with_reducible rfl)
                  (try simp only [Act.put, List.setIfInBounds_toArray, List.set_cons_zero, List.set_cons_succ])
                  refine takeH (i := 6) (v := ?_) rfl (by kernel_rfl) (by kernel_rfl) (by kernel_rfl) (fun _ _ _ h => h) (Or.inl ⟨by rfl, ?_⟩) (by assumption) ?_
                  rotate_left
                  · (intro w hSw; (try dsimp only at hSw); go_simp; first | done | with_reducible rfl)
                  (try simp only [Act.put, List.setIfInBounds_toArray, List.set_cons_zero, List.set_cons_succ])
                  refine takeH (i := 0) (v := ?_) rfl (by kernel_rfl) (by kernel_rfl) (by kernel_rfl) (fun _ _ _ h => h) (Or.inl ⟨by rfl, ?_⟩) (by assumption) ?_
                  rotate_left
                  · (intro w hSw; (try dsimp only at hSw); go_simp; first | done | with_reducible rfl)
                  (try simp only [Act.put, List.setIfInBounds_toArray, List.set_cons_zero, List.set_cons_succ])
                  refine wpAnyH_ready (rs := [7, 11]) (by kernel_rfl) (by simp) ?_
                  refine stepH rfl (fun K hK => ?_) (stepH rfl (fun K hK => ?_) AllReadyH.nil)
                  · go_simp
                    refine (HF.out _ ((Below.refl _ _).drew)).mono ?_
                    rintro e wA ⟨vT, vK, rfl, hT4, hK4, hbA, hbT⟩
                    obtain ⟨aT, cT, rfl, hcT⟩ := hT4.1.shape
                    have hgB := (Below.keepsT hbT) _ _ _ _ (by decide) hg.out
                    obtain ⟨f0, f1, _, _⟩ := split_at hgB
                    go_wp2_with fail
                    refine hK.out _ _ (⟨f0, f1⟩) (fun hHeld => ?_)
                    clear hK K
                    (try simp only [Act.put, List.setIfInBounds_toArray, List.set_cons_zero, List.set_cons_succ])
                    refine takeH (i := 8) (v := ?_) rfl (by kernel_rfl) (by kernel_rfl) (by kernel_rfl) (fun _ _ _ h => h) (Or.inl ⟨by rfl, ?_⟩) (by assumption) ?_
                    rotate_left
                    · (intro w hSw; (try dsimp only at hSw); go_simp; first | done | with_reducible rfl)
                    (try simp only [Act.put, List.setIfInBounds_toArray, List.set_cons_zero, List.set_cons_succ])
                    refine takeH (i := 9) (v := ?_) rfl (by kernel_rfl) (by kernel_rfl) (by kernel_rfl) (fun _ _ _ h => h) (Or.inl ⟨by rfl, ?_⟩) (by assumption) ?_
                    rotate_left
                    · (intro w hSw; (try dsimp only at hSw); go_simp; first | done | with_reducible rfl)
                    (try simp only [Act.put, List.setIfInBounds_toArray, List.set_cons_zero, List.set_cons_succ])
                    refine takeH (i := 10) (v := ?_) rfl (by kernel_rfl) (by kernel_rfl) (by kernel_rfl) (fun _ _ _ h => h) (Or.inl ⟨by rfl, ?_⟩) (by assumption) ?_
                    rotate_left
                    · (intro w hSw; (try dsimp only at hSw); go_simp; first | done | with_reducible rfl)
                    (try simp only [Act.put, List.setIfInBounds_toArray, List.set_cons_zero, List.set_cons_succ])
                    refine wpAnyH_ready (rs := [11]) (by kernel_rfl) (by simp) ?_
                    refine stepH rfl (fun K hK => ?_) AllReadyH.nil
                    go_simp
                    refine hK.out _ _ (⟨below_cell (below_fresh' _ _) f0, below_cell (below_fresh' _ _) f1⟩) (fun hHeld => ?_)
                    clear hK K
                    (try simp only [Act.put, List.setIfInBounds_toArray, List.set_cons_zero, List.set_cons_succ])
                    refine wpAnyH_ready (rs := [12]) (by kernel_rfl) (by simp) ?_
                    refine stepH rfl (fun K hK => ?_) AllReadyH.nil
                    go_simp
                    refine hK.out _ _ (⟨below_cell (below_fresh' _ _) f0, below_cell (below_fresh' _ _) f1⟩) (fun hHeld => ?_)
                    clear hK K
                    (try simp only [Act.put, List.setIfInBounds_toArray, List.set_cons_zero, List.set_cons_succ])
                    refine takeH (i := 13) (v := ?_) rfl (by kernel_rfl) (by kernel_rfl) (by kernel_rfl) (fun _ _ _ h => h) (Or.inl ⟨by rfl, ?_⟩) (by assumption) ?_
                    rotate_left
                    · (intro w hSw; (try dsimp only at hSw); go_simp; first | done | with_reducible rfl)
                    (try simp only [Act.put, List.setIfInBounds_toArray, List.set_cons_zero, List.set_cons_succ])
                    refine wpAnyH_done (by kernel_rfl) ?_ _
                    have hnA := below_fresh' wA (.cells #[.slice aT T.1.length cT, .int .i64 T.2.1] 38)
                    have hgT := split_new wA (.slice aT T.1.length cT) (.int .i64 T.2.1)
                    have hbW := hbT.trans (hnA.mono hbT.size)
                    have hT5 := hT4.below hnA
                    have hK5 := hK4.below hnA
                    have hgC := (Below.keepsT hnA) _ _ _ _ (by decide) hgB
                    obtain ⟨pT0, pT1, _, _⟩ := split_at hgT
                    clear hnA hgT hbT hT4 hK4 hbA hgB f0 f1 q0 q1
                    generalize wA.alloc (.cells #[.slice aT T.1.length cT, .int .i64 T.2.1] 38) = wz at hbW hT5 hK5 pT0 pT1 hgC ⊢
                    have hS5 := HS.out.below hbW
                    have hO5 := HO.out.below hbW
                    obtain ⟨r0, r1, r2, r3⟩ := split_at hgC
                    obtain ⟨g7, k7, b7⟩ := split_put hgC (.slice aT T.1.length cT) (.int .i64 T.2.1) w.heap.size hgs
                    have hb5 := hbz.trans ((hbW.mono hbz.size).trans b7)
                    have hO6 := hO5.keepS k7
                    have hK6 := hK5.keepS k7
                    have HT6 := Lib.hid (hT5.keepS k7)
                    have HS6 := Lib.hid (hS5.keepS k7)
                    have HG7 := Lib.hid g7
                    have hs5 := hb5.size
                    clear hS5 hO5 hK5 hT5 g7 k7 b7 hbW hbz HS HO HF hg hlt0 hne0 hne1 hgC
                    go_wp2_with (at_builtin; refine wp_appLS rfl _ _ rfl rfl hO6 rfl hK6 (by have := HDL.out; omega) (by have := HDL.out; omega) hs5 ?_)
                    intro v8 w8 ho8 hb8 hk8
                    have hT9 := HT6.out.keep hk8
                    have hS9 := HS6.out.keep hk8
                    have hg9 := Lib.hid (hk8 _ _ _ _ (by decide) HG7.out)
                    have hb9 := hb5.trans hb8
                    clear hO6 hK6 hs5 hk8 hb5 hb8 pT0 pT1 r0 r1 r2 r3
                    go_wp2
                    go_roundw
                    case rel => exact ⟨k + n, _, _, _, _, _, (by go_num), rfl, hkn, (fun h => by first | exact absurd h (by omega) | exact ⟨j + 1, by omega, by omega⟩), hT9, hg9, ho8, hS9, hb9, hTk⟩
                    case measure =>
                      refine rounds_less (by omega) (by omega) (fun h => ?_)
                      first | exact absurd h (by omega) | omega
                  · go_simp
                    refine hK.out _ _ (⟨below_cell (below_fresh' _ _).drew q0, below_cell (below_fresh' _ _).drew q1⟩) (fun hHeld => ?_)
                    clear hK K
                    (try simp only [Act.put, List.setIfInBounds_toArray, List.set_cons_zero, List.set_cons_succ])
                    refine wpAnyH_ready (rs := [7]) (by kernel_rfl) (by simp) ?_
                    refine stepH rfl (fun K hK => ?_) AllReadyH.nil
                    go_simp
                    refine (HF.out _ (((Below.refl _ _).drew).alloc (by simp) _)).mono ?_
                    rintro e wA ⟨vT, vK, rfl, hT4, hK4, hbA, hbT⟩
                    obtain ⟨aT, cT, rfl, hcT⟩ := hT4.1.shape
                    have hgB := (Below.keepsT hbT) _ _ _ _ (by decide) hg.out
                    obtain ⟨f0, f1, _, _⟩ := split_at hgB
                    have hgA := split_kept hbA
                    obtain ⟨e0, e1, e2, e3⟩ := split_at hgA
                    go_wp2_with fail
                    refine hK.out _ _ (⟨f0, f1⟩) (fun hHeld => ?_)
                    clear hK K
                    (try simp only [Act.put, List.setIfInBounds_toArray, List.set_cons_zero, List.set_cons_succ])
                    refine takeH (i := 8) (v := ?_) rfl (by kernel_rfl) (by kernel_rfl) (by kernel_rfl) (fun _ _ _ h => h) (Or.inl ⟨by rfl, ?_⟩) (by assumption) ?_
                    rotate_left
                    · (intro w hSw; (try dsimp only at hSw); go_simp; first | done | with_reducible rfl)
                    (try simp only [Act.put, List.setIfInBounds_toArray, List.set_cons_zero, List.set_cons_succ])
                    refine takeH (i := 9) (v := ?_) rfl (by kernel_rfl) (by kernel_rfl) (by kernel_rfl) (fun _ _ _ h => h) (Or.inl ⟨by rfl, ?_⟩) (by assumption) ?_
                    rotate_left
                    · (intro w hSw; (try dsimp only at hSw); go_simp; first | done | with_reducible rfl)
                    (try simp only [Act.put, List.setIfInBounds_toArray, List.set_cons_zero, List.set_cons_succ])
                    refine takeH (i := 10) (v := ?_) rfl (by kernel_rfl) (by kernel_rfl) (by kernel_rfl) (fun _ _ _ h => h) (Or.inl ⟨by rfl, ?_⟩) (by assumption) ?_
                    rotate_left
                    · (intro w hSw; (try dsimp only at hSw); go_simp; first | done | with_reducible rfl)
                    (try simp only [Act.put, List.setIfInBounds_toArray, List.set_cons_zero, List.set_cons_succ])
                    refine wpAnyH_ready (rs := [12]) (by kernel_rfl) (by simp) ?_
                    refine stepH rfl (fun K hK => ?_) AllReadyH.nil
                    go_simp
                    refine hK.out _ _ (⟨by rw [World.cell?_setCell_far _ _ _ _ hne1, World.cell?_setCell_far _ _ _ _ hne1]; exact f0, by rw [World.cell?_setCell_far _ _ _ _ hne1, World.cell?_setCell_far _ _ _ _ hne1]; exact f1⟩) (fun hHeld => ?_)
                    clear hK K
                    (try simp only [Act.put, List.setIfInBounds_toArray, List.set_cons_zero, List.set_cons_succ])
                    refine takeH (i := 13) (v := ?_) rfl (by kernel_rfl) (by kernel_rfl) (by kernel_rfl) (fun _ _ _ h => h) (Or.inl ⟨by rfl, ?_⟩) (by assumption) ?_
                    rotate_left
                    · (intro w hSw; (try dsimp only at hSw); go_simp; first | done | with_reducible rfl)
                    (try simp only [Act.put, List.setIfInBounds_toArray, List.set_cons_zero, List.set_cons_succ])
                    refine wpAnyH_done (by kernel_rfl) ?_ _
                    obtain ⟨g6, k6, b6⟩ := split_put hgA (.slice aT T.1.length cT) (.int .i64 T.2.1) wr.heap.size (Nat.le_refl _)
                    have hbW := hbT.trans b6
                    have hT5 := hT4.keepS k6
                    have hK5 := hK4.keepS k6
                    have hgC := (Below.keepsT hbW) _ _ _ _ (by decide) hg.out
                    obtain ⟨pT0, pT1, _, _⟩ := split_at g6
                    clear g6 k6 b6 hbT hT4 hK4 hbA hgB f0 f1 hgA e0 e1 e2 e3 q0 q1
                    generalize (wA.setCell ⟨wr.heap.size, 0, none⟩ (.slice aT T.1.length cT)).setCell ⟨wr.heap.size, 1, none⟩ (.int .i64 T.2.1) = wz at hbW hT5 hK5 pT0 pT1 hgC ⊢
                    have hS5 := HS.out.below hbW
                    have hO5 := HO.out.below hbW
                    obtain ⟨r0, r1, r2, r3⟩ := split_at hgC
                    obtain ⟨g7, k7, b7⟩ := split_put hgC (.slice aT T.1.length cT) (.int .i64 T.2.1) w.heap.size hgs
                    have hb5 := hbz.trans ((hbW.mono hbz.size).trans b7)
                    have hO6 := hO5.keepS k7
                    have hK6 := hK5.keepS k7
                    have HT6 := Lib.hid (hT5.keepS k7)
                    have HS6 := Lib.hid (hS5.keepS k7)
                    have HG7 := Lib.hid g7
                    have hs5 := hb5.size
                    clear hS5 hO5 hK5 hT5 g7 k7 b7 hbW hbz HS HO HF hg hlt0 hne0 hne1 hgC
                    go_wp2_with (at_builtin; refine wp_appLS rfl _ _ rfl rfl hO6 rfl hK6 (by have := HDL.out; omega) (by have := HDL.out; omega) hs5 ?_)
                    intro v8 w8 ho8 hb8 hk8
                    have hT9 := HT6.out.keep hk8
                    have hS9 := HS6.out.keep hk8
                    have hg9 := Lib.hid (hk8 _ _ _ _ (by decide) HG7.out)
                    have hb9 := hb5.trans hb8
                    clear hO6 hK6 hs5 hk8 hb5 hb8 pT0 pT1 r0 r1 r2 r3
                    go_wp2
                    go_roundw
                    case rel => exact ⟨k + n, _, _, _, _, _, (by go_num), rfl, hkn, (fun h => by first | exact absurd h (by omega) | exact ⟨j + 1, by omega, by omega⟩), hT9, hg9, ho8, hS9, hb9, hTk⟩
                    case measure =>
                      refine rounds_less (by omega) (by omega) (fun h => ?_)
                      first | exact absurd h (by omega) | omega
            · obtain ⟨n, hn⟩ : ∃ n, n = ss.length - k := ⟨_, rfl⟩
              have hkn : k + n ≤ ss.length := by omega
              have hmi : ((ss.length : Int) - (k : Int)) = (n : Int) := by omega
              have hjq : ¬ ((j : Int) < (cs.length : Int)) := by omega
              have hjw : ¬ ((cs.length : Int) < (j : Int)) := by omega
              have hnL : ¬ k + n < ss.length := by omega
              clear hn hz
              go_wp2_with fail
              obtain ⟨aB, cB, rfl, hcB⟩ := hB.1.shape
              obtain ⟨v1, hv1, hcut, hr1⟩ := hs.1.cut k (k + n) (by omega) hkn
              rw [show ((k + n : Nat) : Int) = (k : Int) + (n : Int) by omega] at hcut
              rw [show k + n - k = n by omega] at hr1
              obtain ⟨T, hT⟩ : ∃ T, T = FM.next bs f ((ss.drop k).take n) := ⟨_, rfl⟩
              have hTk : Hid (FM.feed (ss.take (k + n)) = (T.1, T.2.1, ds ++ T.2.2)) := by
                show _ = _
                rw [List.take_add, FM.feed_split _ (ss.take k) ((ss.drop k).take n) (Nat.le_refl _) (FM.bytes_take hxb.out k), hfd.out, hT]
              have hbl : bs.length ≤ 4160 := by
                have h3 := (FM.feed_bytes _ (ss.take k) (Nat.le_refl _) (FM.bytes_take hxb.out k)).2.1
                rw [hfd.out, List.length_take] at h3
                have h4 : bs.length ≤ min k ss.length := h3
                omega
              have hdl : ds.length + T.2.2.length ≤ 4160 := by
                have h3 := (FM.feed_bytes _ (ss.take (k + n)) (Nat.le_refl _) (FM.bytes_take hxb.out _)).2.2.1
                rw [hTk.out, List.length_take] at h3
                have h4 : (ds ++ T.2.2).length ≤ min (k + n) ss.length := h3
                rw [List.length_append] at h4
                omega
              have HDL := Lib.hid hdl
              have HF := Lib.hid (fun (w1 : World) (hb : Below wr.heap.size wr w1) => feed_later (w0 := w1) hT hB.1 hr1 (by rw [List.length_take]; omega) hb)
              obtain ⟨q0, q1, _, _⟩ := split_at hg.out
              have hlt0 : w0.heap.size < wr.heap.size := (Array.getElem?_eq_some_iff.1 hg.out).1
              have hne0 : ¬ w0.heap.size = wr.heap.size := by omega
              have hne1 : ¬ wr.heap.size = w0.heap.size := by omega
              have HS := Lib.hid hs
              have HO := Lib.hid ho
              have hwk : IntKind.i64.wrap ((k : Int) + (n : Int)) = (k : Int) + (n : Int) := by rw [IntKind.wrap_i64]; omega
              clear hv1 hT hdl hr1 hs ho hB hfd hbl
              refine wp_region_held_drew (S := (fun w' => w'.cell? ⟨w0.heap.size, 0, none⟩ = some (.slice aB bs.length cB) ∧ w'.cell? ⟨w0.heap.size, 1, none⟩ = some (.int .i64 f))) (by kernel_rfl) (⟨q0, q1⟩) (fun hHeld => ?_)
              refine takeH (i := 1) (v := ?_) rfl (by kernel_rfl) (by kernel_rfl) (by kernel_rfl) (fun _ _ _ h => h) (Or.inl ⟨by rfl, ?_⟩) (by assumption) ?_
              rotate_left
              · (intro w hSw; (try dsimp only at hSw); go_simp; first | done | with_reducible rfl)
              (try simp only [Act.put, List.setIfInBounds_toArray, List.set_cons_zero, List.set_cons_succ])
              refine takeH (i := 2) (v := ?_) rfl (by kernel_rfl) (by kernel_rfl) (by kernel_rfl) (fun _ _ _ h => h) (Or.inl ⟨by rfl, ?_⟩) (by assumption) ?_
              rotate_left
              · (intro w hSw; (try dsimp only at hSw); go_simp; first | done | with_reducible rfl)
              (try simp only [Act.put, List.setIfInBounds_toArray, List.set_cons_zero, List.set_cons_succ])
              refine takeH (i := 3) (v := ?_) rfl (by kernel_rfl) (by kernel_rfl) (by kernel_rfl) (fun _ _ _ h => h) (Or.inl ⟨by rfl, ?_⟩) (by assumption) ?_
              rotate_left
              · (intro w hSw; (try dsimp only at hSw); go_simp; first | done | with_reducible rfl)
              (try simp only [Act.put, List.setIfInBounds_toArray, List.set_cons_zero, List.set_cons_succ])
              refine takeH (i := 4) (v := ?_) rfl (by kernel_rfl) (by kernel_rfl) (by kernel_rfl) (fun _ _ _ h => h) (Or.inl ⟨by rfl, ?_⟩) (by assumption) ?_
              rotate_left
              · (intro w hSw; (try dsimp only at hSw); go_simp; first | done | with_reducible rfl)
              (try simp only [Act.put, List.setIfInBounds_toArray, List.set_cons_zero, List.set_cons_succ])
              refine takeH (i := 5) (v := ?_) rfl (by kernel_rfl) (by kernel_rfl) (by kernel_rfl) (fun _ _ _ h => h) (Or.inl ⟨by rfl, ?_⟩) (by assumption) ?_
              rotate_left
              · (intro w hSw; (try dsimp only at hSw); go_simp; first | done | with_reducible rfl)
              (try simp only [Act.put, List.setIfInBounds_toArray, List.set_cons_zero, List.set_cons_succ])
              refine takeH (i := 6) (v := ?_) rfl (by kernel_rfl) (by kernel_rfl) (by kernel_rfl) (fun _ _ _ h => h) (Or.inl ⟨by rfl, ?_⟩) (by assumption) ?_
              rotate_left
              · (intro w hSw; (try dsimp only at hSw); go_simp; first | done | with_reducible rfl)
              (try simp only [Act.put, List.setIfInBounds_toArray, List.set_cons_zero, List.set_cons_succ])
              refine takeH (i := 0) (v := ?_) rfl (by kernel_rfl) (by kernel_rfl) (by kernel_rfl) (fun _ _ _ h => h) (Or.inl ⟨by rfl, ?_⟩) (by assumption) ?_
              rotate_left
              · (intro w hSw; (try dsimp only at hSw); go_simp; first | done | with_reducible rfl)
              (try simp only [Act.put, List.setIfInBounds_toArray, List.set_cons_zero, List.set_cons_succ])
              refine wpAnyH_ready (rs := [7, 11]) (by kernel_rfl) (by simp) ?_
              refine stepH rfl (fun K hK => ?_) (stepH rfl (fun K hK => ?_) AllReadyH.nil)
              · go_simp
                refine (HF.out _ ((Below.refl _ _).drew)).mono ?_
                rintro e wA ⟨vT, vK, rfl, hT4, hK4, hbA, hbT⟩
                obtain ⟨aT, cT, rfl, hcT⟩ := hT4.1.shape
                have hgB := (Below.keepsT hbT) _ _ _ _ (by decide) hg.out
                obtain ⟨f0, f1, _, _⟩ := split_at hgB
                go_wp2_with fail
                refine hK.out _ _ (⟨f0, f1⟩) (fun hHeld => ?_)
                clear hK K
                (try simp only [Act.put, List.setIfInBounds_toArray, List.set_cons_zero, List.set_cons_succ])
                refine takeH (i := 8) (v := ?_) rfl (by kernel_rfl) (by kernel_rfl) (by kernel_rfl) (fun _ _ _ h => h) (Or.inl ⟨by rfl, ?_⟩) (by assumption) ?_
                rotate_left
                · (intro w hSw; (try dsimp only at hSw); go_simp; first | done | with_reducible rfl)
                (try simp only [Act.put, List.setIfInBounds_toArray, List.set_cons_zero, List.set_cons_succ])
                refine takeH (i := 9) (v := ?_) rfl (by kernel_rfl) (by kernel_rfl) (by kernel_rfl) (fun _ _ _ h => h) (Or.inl ⟨by rfl, ?_⟩) (by assumption) ?_
                rotate_left
                · (intro w hSw; (try dsimp only at hSw); go_simp; first | done | with_reducible rfl)
                (try simp only [Act.put, List.setIfInBounds_toArray, List.set_cons_zero, List.set_cons_succ])
                refine takeH (i := 10) (v := ?_) rfl (by kernel_rfl) (by kernel_rfl) (by kernel_rfl) (fun _ _ _ h => h) (Or.inl ⟨by rfl, ?_⟩) (by assumption) ?_
                rotate_left
                · (intro w hSw; (try dsimp only at hSw); go_simp; first | done | with_reducible rfl)
                (try simp only [Act.put, List.setIfInBounds_toArray, List.set_cons_zero, List.set_cons_succ])
                refine wpAnyH_ready (rs := [11]) (by kernel_rfl) (by simp) ?_
                refine stepH rfl (fun K hK => ?_) AllReadyH.nil
                go_simp
                refine hK.out _ _ (⟨below_cell (below_fresh' _ _) f0, below_cell (below_fresh' _ _) f1⟩) (fun hHeld => ?_)
                clear hK K
                (try simp only [Act.put, List.setIfInBounds_toArray, List.set_cons_zero, List.set_cons_succ])
                refine wpAnyH_ready (rs := [12]) (by kernel_rfl) (by simp) ?_
                refine stepH rfl (fun K hK => ?_) AllReadyH.nil
                go_simp
                refine hK.out _ _ (⟨below_cell (below_fresh' _ _) f0, below_cell (below_fresh' _ _) f1⟩) (fun hHeld => ?_)
                clear hK K
                (try simp only [Act.put, List.setIfInBounds_toArray, List.set_cons_zero, List.set_cons_succ])
                refine takeH (i := 13) (v := ?_) rfl (by kernel_rfl) (by kernel_rfl) (by kernel_rfl) (fun _ _ _ h => h) (Or.inl ⟨by rfl, ?_⟩) (by assumption) ?_
                rotate_left
                · (intro w hSw; (try dsimp only at hSw); go_simp; first | done | with_reducible rfl)
                (try simp only [Act.put, List.setIfInBounds_toArray, List.set_cons_zero, List.set_cons_succ])
                refine wpAnyH_done (by kernel_rfl) ?_ _
                have hnA := below_fresh' wA (.cells #[.slice aT T.1.length cT, .int .i64 T.2.1] 38)
                have hgT := split_new wA (.slice aT T.1.length cT) (.int .i64 T.2.1)
                have hbW := hbT.trans (hnA.mono hbT.size)
                have hT5 := hT4.below hnA
                have hK5 := hK4.below hnA
                have hgC := (Below.keepsT hnA) _ _ _ _ (by decide) hgB
                obtain ⟨pT0, pT1, _, _⟩ := split_at hgT
                clear hnA hgT hbT hT4 hK4 hbA hgB f0 f1 q0 q1
                generalize wA.alloc (.cells #[.slice aT T.1.length cT, .int .i64 T.2.1] 38) = wz at hbW hT5 hK5 pT0 pT1 hgC ⊢
                have hS5 := HS.out.below hbW
                have hO5 := HO.out.below hbW
                obtain ⟨r0, r1, r2, r3⟩ := split_at hgC
                obtain ⟨g7, k7, b7⟩ := split_put hgC (.slice aT T.1.length cT) (.int .i64 T.2.1) w.heap.size hgs
                have hb5 := hbz.trans ((hbW.mono hbz.size).trans b7)
                have hO6 := hO5.keepS k7
                have hK6 := hK5.keepS k7
                have HT6 := Lib.hid (hT5.keepS k7)
                have HS6 := Lib.hid (hS5.keepS k7)
                have HG7 := Lib.hid g7
                have hs5 := hb5.size
                clear hS5 hO5 hK5 hT5 g7 k7 b7 hbW hbz HS HO HF hg hlt0 hne0 hne1 hgC
                go_wp2_with (at_builtin; refine wp_appLS rfl _ _ rfl rfl hO6 rfl hK6 (by have := HDL.out; omega) (by have := HDL.out; omega) hs5 ?_)
                intro v8 w8 ho8 hb8 hk8
                have hT9 := HT6.out.keep hk8
                have hS9 := HS6.out.keep hk8
                have hg9 := Lib.hid (hk8 _ _ _ _ (by decide) HG7.out)
                have hb9 := hb5.trans hb8
                clear hO6 hK6 hs5 hk8 hb5 hb8 pT0 pT1 r0 r1 r2 r3
                go_wp2
                go_roundw
                case rel => exact ⟨k + n, _, _, _, _, _, (by go_num), rfl, hkn, (fun h => by first | exact absurd h (by omega) | exact ⟨j + 1, by omega, by omega⟩), hT9, hg9, ho8, hS9, hb9, hTk⟩
                case measure =>
                  refine rounds_less (by omega) (by omega) (fun h => ?_)
                  first | exact absurd h (by omega) | omega
              · go_simp
                refine hK.out _ _ (⟨below_cell (below_fresh' _ _).drew q0, below_cell (below_fresh' _ _).drew q1⟩) (fun hHeld => ?_)
                clear hK K
                (try simp only [Act.put, List.setIfInBounds_toArray, List.set_cons_zero, List.set_cons_succ])
                refine wpAnyH_ready (rs := [7]) (by kernel_rfl) (by simp) ?_
                refine stepH rfl (fun K hK => ?_) AllReadyH.nil
                go_simp
                refine (HF.out _ (((Below.refl _ _).drew).alloc (by simp) _)).mono ?_
                rintro e wA ⟨vT, vK, rfl, hT4, hK4, hbA, hbT⟩
                obtain ⟨aT, cT, rfl, hcT⟩ := hT4.1.shape
                have hgB := (Below.keepsT hbT) _ _ _ _ (by decide) hg.out
                obtain ⟨f0, f1, _, _⟩ := split_at hgB
                have hgA := split_kept hbA
                obtain ⟨e0, e1, e2, e3⟩ := split_at hgA
                go_wp2_with fail
                refine hK.out _ _ (⟨f0, f1⟩) (fun hHeld => ?_)
                clear hK K
                (try simp only [Act.put, List.setIfInBounds_toArray, List.set_cons_zero, List.set_cons_succ])
                refine takeH (i := 8) (v := ?_) rfl (by kernel_rfl) (by kernel_rfl) (by kernel_rfl) (fun _ _ _ h => h) (Or.inl ⟨by rfl, ?_⟩) (by assumption) ?_
                rotate_left
                · (intro w hSw; (try dsimp only at hSw); go_simp; first | done | with_reducible rfl)
                (try simp only [Act.put, List.setIfInBounds_toArray, List.set_cons_zero, List.set_cons_succ])
                refine takeH (i := 9) (v := ?_) rfl (by kernel_rfl) (by kernel_rfl) (by kernel_rfl) (fun _ _ _ h => h) (Or.inl ⟨by rfl, ?_⟩) (by assumption) ?_
                rotate_left
                · (intro w hSw; (try dsimp only at hSw); go_simp; first | done | with_reducible rfl)
                (try simp only [Act.put, List.setIfInBounds_toArray, List.set_cons_zero, List.set_cons_succ])
                refine takeH (i := 10) (v := ?_) rfl (by kernel_rfl) (by kernel_rfl) (by kernel_rfl) (fun _ _ _ h => h) (Or.inl ⟨by rfl, ?_⟩) (by assumption) ?_
                rotate_left
                · (intro w hSw; (try dsimp only at hSw); go_simp; first | done | with_reducible rfl)
                (try simp only [Act.put, List.setIfInBounds_toArray, List.set_cons_zero, List.set_cons_succ])
                refine wpAnyH_ready (rs := [12]) (by kernel_rfl) (by simp) ?_
                refine stepH rfl (fun K hK => ?_) AllReadyH.nil
                go_simp
                refine hK.out _ _ (⟨by rw [World.cell?_setCell_far _ _ _ _ hne1, World.cell?_setCell_far _ _ _ _ hne1]; exact f0, by rw [World.cell?_setCell_far _ _ _ _ hne1, World.cell?_setCell_far _ _ _ _ hne1]; exact f1⟩) (fun hHeld => ?_)
                clear hK K
                (try simp only [Act.put, List.setIfInBounds_toArray, List.set_cons_zero, List.set_cons_succ])
                refine takeH (i := 13) (v := ?_) rfl (by kernel_rfl) (by kernel_rfl) (by kernel_rfl) (fun _ _ _ h => h) (Or.inl ⟨by rfl, ?_⟩) (by assumption) ?_
                rotate_left
                · (intro w hSw; (try dsimp only at hSw); go_simp; first | done | with_reducible rfl)
                (try simp only [Act.put, List.setIfInBounds_toArray, List.set_cons_zero, List.set_cons_succ])
                refine wpAnyH_done (by kernel_rfl) ?_ _
                obtain ⟨g6, k6, b6⟩ := split_put hgA (.slice aT T.1.length cT) (.int .i64 T.2.1) wr.heap.size (Nat.le_refl _)
                have hbW := hbT.trans b6
                have hT5 := hT4.keepS k6
                have hK5 := hK4.keepS k6
                have hgC := (Below.keepsT hbW) _ _ _ _ (by decide) hg.out
                obtain ⟨pT0, pT1, _, _⟩ := split_at g6
                clear g6 k6 b6 hbT hT4 hK4 hbA hgB f0 f1 hgA e0 e1 e2 e3 q0 q1
                generalize (wA.setCell ⟨wr.heap.size, 0, none⟩ (.slice aT T.1.length cT)).setCell ⟨wr.heap.size, 1, none⟩ (.int .i64 T.2.1) = wz at hbW hT5 hK5 pT0 pT1 hgC ⊢
                have hS5 := HS.out.below hbW
                have hO5 := HO.out.below hbW
                obtain ⟨r0, r1, r2, r3⟩ := split_at hgC
                obtain ⟨g7, k7, b7⟩ := split_put hgC (.slice aT T.1.length cT) (.int .i64 T.2.1) w.heap.size hgs
                have hb5 := hbz.trans ((hbW.mono hbz.size).trans b7)
                have hO6 := hO5.keepS k7
                have hK6 := hK5.keepS k7
                have HT6 := Lib.hid (hT5.keepS k7)
                have HS6 := Lib.hid (hS5.keepS k7)
                have HG7 := Lib.hid g7
                have hs5 := hb5.size
                clear hS5 hO5 hK5 hT5 g7 k7 b7 hbW hbz HS HO HF hg hlt0 hne0 hne1 hgC
                go_wp2_with (at_builtin; refine wp_appLS rfl _ _ rfl rfl hO6 rfl hK6 (by have := HDL.out; omega) (by have := HDL.out; omega) hs5 ?_)
                intro v8 w8 ho8 hb8 hk8
                have hT9 := HT6.out.keep hk8
                have hS9 := HS6.out.keep hk8
                have hg9 := Lib.hid (hk8 _ _ _ _ (by decide) HG7.out)
                have hb9 := hb5.trans hb8
                clear hO6 hK6 hs5 hk8 hb5 hb8 pT0 pT1 r0 r1 r2 r3
                go_wp2
                go_roundw
                case rel => exact ⟨k + n, _, _, _, _, _, (by go_num), rfl, hkn, (fun h => by first | exact absurd h (by omega) | exact ⟨j + 1, by omega, by omega⟩), hT9, hg9, ho8, hS9, hb9, hTk⟩
                case measure =>
                  refine rounds_less (by omega) (by omega) (fun h => ?_)
                  first | exact absurd h (by omega) | omega
      · have hlt : k < pss.length := by omega
        obtain ⟨p, up, hidx, hcp, hrp⟩ := HAt.out k hlt
        have hgd : pss.getD k [] = pss[k] := by simp [List.getD, List.getElem?_eq_getElem hlt]
        rw [hgd] at hrp
        have htk : pss.take (k + 1) = pss.take k ++ [pss[k]] := List.take_succ_eq_append_getElem hlt
        have hmem : pss[k] ∈ pss := List.getElem_mem hlt
        generalize pss[k] = q at hrp htk hmem
        obtain ⟨aq, cq, rfl, hcq⟩ := hrp.shape
        have hcell := below_cell hb hcp
        have hrq := hrp.below hb
        have HT := Lib.hid htk
        clear hcp hrp hgd htk hmem
        have hqq : (k : Int) < (pss.length : Int) := by omega
        by_cases hq2 : 200 < q.length
        · clear hr hrq hfr hsm
          go_wp2_with fail
          refine (awake2 _).mono ?_
          rintro e w1 ⟨rfl, hb1⟩
          go_wp2
          go_ret
          exact ⟨rfl, hb.trans (hb1.mono hb.size)⟩
        · have happ := wAppend _ _ ss q wr hr.1 hrq (by omega) (by omega)
          have hfl := FM.frame_length q
          have hfr2 : Hid (ss ++ FM.frame q = FM.frames (pss.take (k + 1))) := by show _ = _; rw [HT.out, FM.frames_snoc, ← hfr.out]
          have hsm2 : Hid (∀ p ∈ pss.take (k + 1), p.length ≤ 200) := by
            intro p hp
            rw [HT.out] at hp
            rcases List.mem_append.1 hp with hp | hp
            · exact hsm.out p hp
            · have := List.mem_singleton.1 hp
              subst this
              omega
          have hsl2 : Hid ((ss ++ FM.frame q).length ≤ (k + 1) * 208) := by show _ ≤ _; rw [List.length_append, hfl]; omega
          clear hr hrq hfr hsm HT
          go_wp2_with fail
          refine happ.mono ?_
          rintro e w1 ⟨v1, rfl, ho1, hb1⟩
          have hb2 := hb.trans (hb1.mono hb.size)
          have hr1 := ho1.rdT
          clear happ hb hb1 ho1 hfl
          go_wp2
          go_roundw
          case rel => exact ⟨k + 1, _, by omega, by go_num, hr1, hfr2, hsm2, hsl2.out, hb2⟩
          case measure => simp [intOf]; omega

end Go.Proofs.Ytgpbacddpfbimaa
