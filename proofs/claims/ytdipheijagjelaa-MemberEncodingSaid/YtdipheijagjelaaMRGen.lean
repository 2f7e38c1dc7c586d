/-
  The call of the reference's AppendGenesis: the bytes of the encoding. Conditions: the bytes and the members read; the numbers are from 0 to 2^31 - 1.
-/
import Derived.Test.YtdipheijagjelaaMKit
namespace Go.Proofs.Ytdipheijagjelaa
open Go.RowKit Go.Joins
open MM (Mem Ent Sm Tri)

/-- The numbers of the first members. -/
def gj (ms : List Mem) (j : Nat) : List Int := (ms.length : Int) :: (ms.take j).flatMap fun m => [m.1, m.2]
theorem gj_succ {ms : List Mem} {j : Nat} {x t : Int} (h : ms[j]? = some (x, t)) : gj ms (j + 1) = gj ms j ++ [x, t] := by
  unfold gj; rw [flat_take h]; rfl
theorem gj_all (ms : List Mem) (k c f : Int) : gj ms ms.length ++ [k, c, f] = gnum ms k c f := by unfold gj gnum; rw [List.take_length]
theorem gj_len (ms : List Mem) (j : Nat) : (gj ms j).length ≤ 2 * j + 1 := by
  unfold gj
  rw [List.length_cons, flat_len, List.length_take]; omega
theorem gj_mem {ms : List Mem} {j : Nat} {k c f x : Int} (h : x ∈ gj ms j) : x ∈ gnum ms k c f := by
  unfold gj at h
  unfold gnum
  rcases List.mem_cons.1 h with rfl | h
  · simp
  · obtain ⟨m, h1, h2⟩ := List.mem_flatMap.1 h
    have h3 : x ∈ ms.flatMap fun m => [m.1, m.2] := List.mem_flatMap.2 ⟨m, List.mem_of_mem_take h1, h2⟩
    exact List.mem_append_left _ (List.mem_cons_of_mem _ h3)

set_option maxRecDepth 100000 in
set_option maxHeartbeats 8000000 in
theorem rAppGen (v u : Value) (bs : List Int) (ms : List Mem) (k c f : Int) (w : World) (h : Rd w v bs) (hu : RdM w u ms) (hs : ∀ x ∈ gnum ms k c f, JM.small x) (hl : ms.length ≤ 400) (hlen : bs.length ≤ 1073741824) :
    Calls Try.prog 37 #[v, vw u k c f] w fun e w' => ∃ v', e = .returned v' ∧ Rd w' v' (bs ++ JM.encN (gnum ms k c f)) ∧ Below w.heap.size w w' := by
  obtain ⟨ad, cp, rfl, _, _⟩ := hu.shape
  obtain ⟨w1, hw1⟩ : ∃ w1, w.alloc (.cells #[.slice ad ms.length cp, .int .i64 k, .int .i64 c, .int .i64 f] 26) = w1 := ⟨_, rfl⟩
  have hB := below_fresh w (.cells #[.slice ad ms.length cp, .int .i64 k, .int .i64 c, .int .i64 f] 26)
  have hG := heap_alloc_new w (.cells #[.slice ad ms.length cp, .int .i64 k, .int .i64 c, .int .i64 f] 26)
  rw [hw1] at hB hG
  have HV := Lib.hid (h.below hB)
  have HM := Lib.hid (hu.below hB)
  have HG := Lib.hid hG
  have HB := Lib.hid hB
  have HW := Lib.hid hw1
  have hgs : ∀ j, ∀ x ∈ gj ms j, JM.small x := fun j x hx => hs x (gj_mem hx)
  have hlj : ∀ j, j ≤ ms.length → (bs ++ JM.encN (gj ms j)).length ≤ 549755813888 := by
    intro j hj
    have h1 := JM.encN_len (gj ms j) (hgs j)
    have h2 := gj_len ms j
    rw [List.length_append]
    omega
  have HGS := Lib.hid hgs
  have HLJ := Lib.hid hlj
  have HL := Lib.hid hl
  have HKS := Lib.hid (show ∀ x ∈ [k, c, f], JM.small x from fun x hx => hs x (by unfold gnum; exact List.mem_append_right _ hx))
  have hf1 := below_fresh w1 (.cells #[.int .i64 (ms.length : Int)] 3)
  have hg1 : RdI (w1.alloc (.cells #[.int .i64 (ms.length : Int)] 3)) (.slice (some ⟨w1.heap.size, 0, none⟩) 1 1) [(ms.length : Int)] := (ownG_fresh hlI 3 w1 [(ms.length : Int)] (by simp [maxLen])).rd
  have HN := Lib.hid (rNumbers v bs _ _ _ (HV.out.below hf1) hg1 (by simp) (fun x hx => hgs 0 x (by unfold gj; simpa using hx)) (by omega))
  have HF1 := Lib.hid hf1
  obtain ⟨⟨q0, q1, q2, q3⟩, _⟩ := row4_at HG.out
  clear h hu hs hl hlen hB hG hw1 hgs hlj hf1 hg1
  go_enter Try.func37, Try.ntmps37
  go_upto_region 1 with fail
  rw [HW.out]
  go_wp2_with fail
  refine HN.out.mono ?_
  rintro e w2 ⟨v2, rfl, hr2, hb2⟩
  have HO2 := Lib.hid (show Rd w2 v2 (bs ++ JM.encN (gj ms 0)) by have := hr2; unfold gj; simpa using this)
  have HB2 := Lib.hid (bnext HF1.out hb2)
  clear hr2 hb2 HN HF1 HV q0 q1 q2 q3
  go_wp2
  go_loopw [0, 5] (fun u i wr => ∃ j : Nat, j ≤ ms.length ∧ i = .int .i64 j ∧ Hid (Rd wr u (bs ++ JM.encN (gj ms j))) ∧ Hid (Below w1.heap.size w1 wr)) (fun _ i _ => ms.length - (intOf i).toNat)
  case atStart => exact ⟨0, Nat.zero_le _, rfl, HO2, HB2⟩
  case round =>
    clear HO2 HB2
    obtain ⟨j, hj, rfl, ho, hbl⟩ := hrel
    obtain ⟨⟨q0, q1, q2, q3⟩, _⟩ := row4_at (below_block HG.out hbl.out)
    by_cases hlt : j < ms.length
    · have hq : (j : Int) < (ms.length : Int) := by omega
      have hjb : (j : Int) ≤ 1000000 := by have := HL.out; omega
      obtain ⟨⟨m, t⟩, hx⟩ : ∃ m : Mem, ms[j]? = some m := ⟨_, List.getElem?_eq_getElem hlt⟩
      obtain ⟨b, o, hi, hob, c0, c1⟩ := atM (HM.out.below hbl.out) j _ hx
      dsimp only at c0 c1
      have HHI := Lib.hid hi
      have HC := Lib.hid (fun w' (bb : Below wr.heap.size wr w') => And.intro ((bb.cell hob).trans c0) ((bb.cell hob).trans c1))
      have HSN := Lib.hid (gj_succ hx)
      have HST := Lib.hid (show ∀ x ∈ [m, t], JM.small x from fun x hx2 => HGS.out (j + 1) x (by rw [gj_succ hx]; exact List.mem_append_right _ hx2))
      have HLE := Lib.hid (HLJ.out j hj)
      clear hx hi hob c0 c1
      go_wp2
      clear q0 q1 q2 q3
      refine wp_region_held_drew (S := fun w' => Below wr.heap.size wr w') (by kernel_rfl) ((Below.refl _ _).drew) (fun ha => ?_)
      replace ha : Below wr.heap.size wr wr.drew := (Below.refl _ _).drew
      generalize wr.drew = wa at ha ⊢
      refine takeH (i := 0) (v := ?_) rfl (by kernel_rfl) (by kernel_rfl) (by kernel_rfl) (fun _ _ _ h => h) (Or.inl ⟨by rfl, ?_⟩) (by assumption) ?_
      rotate_left
      · (intro w hSw; (try dsimp only at hSw); go_simp; first | done | with_reducible rfl)
      (try simp only [Act.put, List.setIfInBounds_toArray, List.set_cons_zero, List.set_cons_succ])
      refine takeH (i := 1) (v := ?_) rfl (by kernel_rfl) (by kernel_rfl) (by kernel_rfl) (fun _ _ _ h => h) (Or.inl ⟨by rfl, ?_⟩) (by assumption) ?_
      rotate_left
      · (intro w hSw; (try dsimp only at hSw); go_simp; first | done | with_reducible rfl)
      (try simp only [Act.put, List.setIfInBounds_toArray, List.set_cons_zero, List.set_cons_succ])
      refine takeH (i := 2) (v := ?_) rfl (by kernel_rfl) (by kernel_rfl) (by kernel_rfl) (fun _ _ _ h => h) (Or.inl ⟨by rfl, ?_⟩) (by assumption) ?_
      rotate_left
      · (intro w hSw; (try dsimp only at hSw); obtain ⟨⟨q0, q1, q2, q3⟩, _⟩ := row4_at (below_block HG.out (bnext hbl.out hSw)); go_simp; first | done | with_reducible rfl)
      (try simp only [Act.put, List.setIfInBounds_toArray, List.set_cons_zero, List.set_cons_succ])
      refine takeH (i := 3) (v := ?_) rfl (by kernel_rfl) (by kernel_rfl) (by kernel_rfl) (fun _ _ _ h => h) (Or.inl ⟨by rfl, ?_⟩) (by assumption) ?_
      rotate_left
      · (intro w hSw; (try dsimp only at hSw); go_simp; first | done | with_reducible rfl)
      (try simp only [Act.put, List.setIfInBounds_toArray, List.set_cons_zero, List.set_cons_succ])
      refine takeH (i := 4) (v := ?_) rfl (by kernel_rfl) (by kernel_rfl) (by kernel_rfl) (fun _ _ _ h => h) (Or.inl ⟨by rfl, ?_⟩) (by assumption) ?_
      rotate_left
      · (intro w hSw; (try dsimp only at hSw); have hi := HHI.out; go_simp; first | done | with_reducible rfl)
      (try simp only [Act.put, List.setIfInBounds_toArray, List.set_cons_zero, List.set_cons_succ])
      refine takeH (i := 5) (v := ?_) rfl (by kernel_rfl) (by kernel_rfl) (by kernel_rfl) (fun _ _ _ h => h) (Or.inl ⟨by rfl, ?_⟩) (by assumption) ?_
      rotate_left
      · (intro w hSw; (try dsimp only at hSw); go_simp; first | done | with_reducible rfl)
      (try simp only [Act.put, List.setIfInBounds_toArray, List.set_cons_zero, List.set_cons_succ])
      refine takeH (i := 6) (v := ?_) rfl (by kernel_rfl) (by kernel_rfl) (by kernel_rfl) (fun _ _ _ h => h) (Or.inl ⟨by rfl, ?_⟩) (by assumption) ?_
      rotate_left
      · (intro w hSw; (try dsimp only at hSw); obtain ⟨hc0, hc1⟩ := HC.out w hSw; go_simp; first | done | with_reducible rfl)
      (try simp only [Act.put, List.setIfInBounds_toArray, List.set_cons_zero, List.set_cons_succ])
      refine takeH (i := 7) (v := ?_) rfl (by kernel_rfl) (by kernel_rfl) (by kernel_rfl) (fun _ _ _ h => h) (Or.inl ⟨by rfl, ?_⟩) (by assumption) ?_
      rotate_left
      · (intro w hSw; (try dsimp only at hSw); go_simp; first | done | with_reducible rfl)
      (try simp only [Act.put, List.setIfInBounds_toArray, List.set_cons_zero, List.set_cons_succ])
      refine takeH (i := 8) (v := ?_) rfl (by kernel_rfl) (by kernel_rfl) (by kernel_rfl) (fun _ _ _ h => h) (Or.inl ⟨by rfl, ?_⟩) (by assumption) ?_
      rotate_left
      · (intro w hSw; (try dsimp only at hSw); obtain ⟨⟨q0, q1, q2, q3⟩, _⟩ := row4_at (below_block HG.out (bnext hbl.out hSw)); go_simp; first | done | with_reducible rfl)
      (try simp only [Act.put, List.setIfInBounds_toArray, List.set_cons_zero, List.set_cons_succ])
      refine takeH (i := 9) (v := ?_) rfl (by kernel_rfl) (by kernel_rfl) (by kernel_rfl) (fun _ _ _ h => h) (Or.inl ⟨by rfl, ?_⟩) (by assumption) ?_
      rotate_left
      · (intro w hSw; (try dsimp only at hSw); go_simp; first | done | with_reducible rfl)
      (try simp only [Act.put, List.setIfInBounds_toArray, List.set_cons_zero, List.set_cons_succ])
      refine takeH (i := 10) (v := ?_) rfl (by kernel_rfl) (by kernel_rfl) (by kernel_rfl) (fun _ _ _ h => h) (Or.inl ⟨by rfl, ?_⟩) (by assumption) ?_
      rotate_left
      · (intro w hSw; (try dsimp only at hSw); have hi := HHI.out; go_simp; first | done | with_reducible rfl)
      (try simp only [Act.put, List.setIfInBounds_toArray, List.set_cons_zero, List.set_cons_succ])
      refine takeH (i := 11) (v := ?_) rfl (by kernel_rfl) (by kernel_rfl) (by kernel_rfl) (fun _ _ _ h => h) (Or.inl ⟨by rfl, ?_⟩) (by assumption) ?_
      rotate_left
      · (intro w hSw; (try dsimp only at hSw); go_simp; first | done | with_reducible rfl)
      (try simp only [Act.put, List.setIfInBounds_toArray, List.set_cons_zero, List.set_cons_succ])
      refine takeH (i := 12) (v := ?_) rfl (by kernel_rfl) (by kernel_rfl) (by kernel_rfl) (fun _ _ _ h => h) (Or.inl ⟨by rfl, ?_⟩) (by assumption) ?_
      rotate_left
      · (intro w hSw; (try dsimp only at hSw); obtain ⟨hc0, hc1⟩ := HC.out w hSw; go_simp; first | done | with_reducible rfl)
      (try simp only [Act.put, List.setIfInBounds_toArray, List.set_cons_zero, List.set_cons_succ])
      refine wpAnyH_ready (rs := [13]) (by kernel_rfl) (by simp) ?_
      refine stepH rfl (fun K hK => ?_) AllReadyH.nil
      go_simp
      have hb := bnext ha (below_fresh _ (.cells #[.int .i64 m, .int .i64 t] 3))
      have hg : RdI (wa.alloc (.cells #[.int .i64 m, .int .i64 t] 3)) (.slice (some ⟨wa.heap.size, 0, none⟩) 2 2) [m, t] := (ownG_fresh hlI 3 wa [m, t] (by simp [maxLen])).rd
      refine hK.out _ _ (hb) (fun _ => ?_)
      clear hK K
      (try simp only [Act.put, List.setIfInBounds_toArray, List.set_cons_zero, List.set_cons_succ])
      obtain ⟨wb , hwb ⟩ : ∃ wb , (wa).alloc (.cells #[.int .i64 m, .int .i64 t] 3) = wb  := ⟨_, rfl⟩
      rw [hwb ] at hb hg ⊢
      clear hwb 
      refine wpAnyH_ready (rs := [14]) (by kernel_rfl) (by simp) ?_
      refine stepH rfl (fun K hK => ?_) AllReadyH.nil
      go_simp
      refine (rNumbers _ _ _ _ wb (ho.out.below hb) hg (by simp) HST.out HLE.out).mono ?_
      rintro e wc ⟨v3, rfl, hr3, hq⟩
      have hc := bnext hb hq
      go_wp2_with fail
      refine hK.out _ _ (hc) (fun _ => ?_)
      clear hK K
      (try simp only [Act.put, List.setIfInBounds_toArray, List.set_cons_zero, List.set_cons_succ])
      refine takeH (i := 15) (v := ?_) rfl (by kernel_rfl) (by kernel_rfl) (by kernel_rfl) (fun _ _ _ h => h) (Or.inl ⟨by rfl, ?_⟩) (by assumption) ?_
      rotate_left
      · (intro w hSw; (try dsimp only at hSw); go_simp; first | done | with_reducible rfl)
      (try simp only [Act.put, List.setIfInBounds_toArray, List.set_cons_zero])
      refine wpAnyH_done (by kernel_rfl) ?_ _
      have HO3 := Lib.hid (show Rd wc v3 (bs ++ JM.encN (gj ms (j + 1))) by rw [HSN.out, JM.encN_append, ← List.append_assoc]; exact hr3)
      have HB3 := Lib.hid (bnext hbl.out hc)
      clear ha hb hc hr3 hg hbl ho HC HST HLE HSN HHI
      go_wp2
      go_roundw
      case rel => exact ⟨j + 1, by omega, by go_num, HO3, HB3⟩
      case measure => simp [intOf]; omega
    · have hq : ¬ ((j : Int) < (ms.length : Int)) := by omega
      obtain rfl : j = ms.length := by omega
      have hf2 := below_fresh wr (.cells #[.int .i64 k, .int .i64 c, .int .i64 f] 3)
      have hg2 : RdI (wr.alloc (.cells #[.int .i64 k, .int .i64 c, .int .i64 f] 3)) (.slice (some ⟨wr.heap.size, 0, none⟩) 3 3) [k, c, f] := (ownG_fresh hlI 3 wr [k, c, f] (by simp [maxLen])).rd
      have HN := Lib.hid (rNumbers _ _ _ _ _ (ho.out.below hf2) hg2 (by simp) HKS.out (HLJ.out _ (Nat.le_refl _)))
      have HB3 := Lib.hid (bnext hbl.out hf2)
      clear hf2 hg2
      go_wp2_with fail
      refine HN.out.mono ?_
      rintro e w4 ⟨v4, rfl, hr4, hb4⟩
      have HO4 := Lib.hid (show Rd w4 v4 (bs ++ JM.encN (gnum ms k c f)) by rw [← gj_all, JM.encN_append, ← List.append_assoc]; exact hr4)
      have HB4 := Lib.hid (bnext HB.out (bnext HB3.out hb4))
      clear hr4 hb4 HN q0 q1 q2 q3
      go_wp2
      go_ret
      exact ⟨_, rfl, HO4.out, HB4.out⟩

end Go.Proofs.Ytdipheijagjelaa
