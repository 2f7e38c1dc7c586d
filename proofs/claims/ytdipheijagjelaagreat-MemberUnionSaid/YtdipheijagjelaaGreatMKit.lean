/-
  The calls of the laws' Genesis, which builds a valid genesis, and of the reference's In. Conditions: the list reads.
-/
import Derived.Test.YtdipheijagjelaaGreatMGdM
import Derived.IntWalk
namespace Go.Proofs.YtdipheijagjelaaGreat
open Go.RowKit Go.Joins
open MM (Mem Ent Sm Tri)

/-- k members, from number i + 1 on. -/
def gk (n : Int) : Nat → Nat → List Mem
  | _, 0 => []
  | i, k + 1 => ((i : Int) + 1, 1 + (dg n 3 (6 + i) : Int)) :: gk n (i + 1) k
theorem gk_len (n : Int) : ∀ (i k : Nat), (gk n i k).length = k
  | _, 0 => rfl
  | i, k + 1 => by rw [gk, List.length_cons, gk_len n (i + 1) k]
theorem gk_snoc (n : Int) : ∀ (i k : Nat), gk n i (k + 1) = gk n i k ++ [(((i + k : Nat) : Int) + 1, 1 + (dg n 3 (6 + (i + k)) : Int))]
  | i, 0 => rfl
  | i, k + 1 => by
    rw [gk, gk_snoc n (i + 1) k, gk, show i + 1 + k = i + (k + 1) by omega]
    rfl
theorem gk_val (n : Int) : ∀ (i k : Nat), i + k ≤ 12 → MM.Val (i : Int) (gk n i k)
  | _, 0, _ => trivial
  | i, k + 1, h => by
    have h1 := dg_lt n (6 + i) (show 0 < 3 by decide)
    have h2 := gk_val n (i + 1) k (by omega)
    rw [gk]
    refine ⟨?_, ?_, ?_, ?_, ?_, ?_⟩
    · show (i : Int) < (i : Int) + 1; omega
    · show 1 ≤ (i : Int) + 1; omega
    · show (i : Int) + 1 ≤ 12; omega
    · show 1 ≤ 1 + (dg n 3 (6 + i) : Int); omega
    · show 1 + (dg n 3 (6 + i) : Int) ≤ 9; omega
    · show MM.Val ((i : Int) + 1) _
      rw [show (i : Int) + 1 = ((i + 1 : Nat) : Int) by omega]; exact h2

theorem kg_ret {R : Ending → World → Prop} {a : Act} {w : World} {g : Nat} {s : Value} {k c f : Int} (hp : a.tmps.getD 2 undef = .pointer (some ⟨g, 0, none⟩)) (hg : w.heap[g]? = some (gBox s k c f))
    (hd : a.defers = []) (hR : R (.returned (vw s k c f)) w) : bodyPost Tryz.prog Tryz.f4 R .ret a w :=
  bodyPost_ret (results_cell_row (P := Tryz.prog) rfl a.tmps w g 27 _ _ _ hp hg Tryz.underlying27 rfl (by kernel_rfl)) hd hR
set_option maxRecDepth 100000 in
set_option maxHeartbeats 4000000 in
theorem kGenesis (n : Int) (w : World) :
    Calls Tryz.prog 4 #[.int .i64 n] w fun e w' => ∃ u k c f ms, e = .returned (vw u k c f) ∧ RdM w' u ms ∧ MM.errG k c f ms = 0 ∧ Below w.heap.size w w' := by
  obtain ⟨D, hD⟩ : ∃ D, D = dg n 5 4 := ⟨_, rfl⟩
  have hD4 : D < 5 := by rw [hD]; exact dg_lt n 4 (by decide)
  have HD := Lib.hid (fun w => by have := kDigit n 5 4 w (by decide) (by decide) (by decide); rw [← hD] at this; exact this)
  have HRU := Lib.hid (fun w => kRule n w)
  have hz := heap_alloc_new w (.cells #[.slice none 0 0, .int .i64 0, .int .i64 0, .int .i64 0] 27)
  have hf := below_fresh w (.cells #[.slice none 0 0, .int .i64 0, .int .i64 0, .int .i64 0] 27)
  obtain ⟨w1, hw1⟩ : ∃ w1, w.alloc (.cells #[.slice none 0 0, .int .i64 0, .int .i64 0, .int .i64 0] 27) = w1 := ⟨_, rfl⟩
  rw [hw1] at hz hf
  have HZ := Lib.hid hz
  have HB := Lib.hid hf
  have HW := Lib.hid hw1
  clear hD hz hf hw1
  go_enter Tryz.func4, Tryz.ntmps4
  go_upto_region 1 with fail
  rw [HW.out]
  go_wp2_with fail
  refine (HRU.out w1).mono ?_
  rintro e w2 ⟨k, c, f, rfl, hrl, hb2⟩
  have HRL := Lib.hid hrl
  have hz2 := below_block HZ.out hb2
  have hb12 := bnext HB.out hb2
  obtain ⟨S0, hS0⟩ : ∃ o, o = Obj.cells #[.slice none 0 0, .int .i64 k, .int .i64 c, .int .i64 f] 27 := ⟨_, rfl⟩
  have hb3 := below_fresh w2 S0
  have hg3 := heap_alloc_new w2 S0
  obtain ⟨G, hG⟩ : ∃ G, G = w2.heap.size := ⟨_, rfl⟩
  have hgz : w.heap.size < G := by rw [hG]; exact (Array.getElem?_eq_some_iff.1 hz2).1
  have hz3 := below_block hz2 hb3
  have hb13 := bnext hb12 hb3
  have hg4 : G < (w2.alloc S0).heap.size := by rw [hG]; simp
  rw [← hG] at hg3
  obtain ⟨w3, hw3⟩ : ∃ w3, w2.alloc S0 = w3 := ⟨_, rfl⟩
  rw [hw3] at hg3 hz3 hb13 hg4
  rw [hS0] at hg3 hw3
  have HG3 := Lib.hid hg3
  have HZ3 := Lib.hid hz3
  have HB3 := Lib.hid hb13
  have HW3 := Lib.hid hw3
  have HGE := Lib.hid hG
  have HGZ := Lib.hid hgz
  have HG4 := Lib.hid hg4
  have HM0 := Lib.hid (show OwnM w3.heap.size w3 (.slice none 0 0) [] from OwnG.nil hlM _ _ _)
  clear hz2 hb12 hb2 hb3 hg3 hz3 hb13 hw3 hG hgz hg4 hrl hS0 S0 HZ HB HW HRU
  go_upto_region 2 with fail
  rw [HW3.out, ← HGE.out]
  go_wp2
  go_loopw [4] (fun i wr => ∃ (j : Nat) (sl : Value), j ≤ D + 1 ∧ i = .int .i64 j ∧ Hid (wr.heap[w.heap.size]? = some (gBox (.slice none 0 0) 0 0 0)) ∧ Hid (wr.heap[G]? = some (gBox sl k c f)) ∧ Hid (OwnM w3.heap.size wr sl (gk n 0 j)) ∧ Hid (Below w.heap.size w wr) ∧ Hid (w3.heap.size ≤ wr.heap.size)) (fun i _ => D + 1 - (intOf i).toNat)
  case atStart => exact ⟨0, _, Nat.zero_le _, rfl, HZ3, HG3, HM0, HB3, Lib.hid (Nat.le_refl _)⟩
  case round =>
    obtain ⟨j, sl, hj, rfl, HZ5, HG5, HM5, HB5, HS5⟩ := hrel
    clear HZ3 HG3 HM0 HB3 HW3 HGE
    obtain ⟨sa, slen, sc, hvs⟩ : ∃ a l c, sl = .slice a l c := by obtain ⟨a, c, h, _⟩ := HM5.out.rd.shape; exact ⟨a, _, c, h⟩
    subst hvs
    by_cases hlt : j ≤ D
    · have hq : (j : Int) ≤ (D : Int) := by omega
      have hjb : (j : Int) ≤ 4 := by omega
      obtain ⟨E, hE⟩ : ∃ E, E = dg n 3 (6 + j) := ⟨_, rfl⟩
      have hE3 : (E : Int) < 3 := by have := dg_lt n (6 + j) (show 0 < 3 by decide); omega
      have hdj := fun w => kDigit n 3 (6 + j) w (by decide) (by decide) (by omega)
      rw [show ((6 + j : Nat) : Int) = 6 + (j : Int) by omega, ← hE] at hdj
      have HDJ := Lib.hid hdj
      have HSN := Lib.hid (show gk n 0 (j + 1) = gk n 0 j ++ [((j : Int) + 1, 1 + (E : Int))] by rw [gk_snoc, Nat.zero_add, hE])
      have HLN := Lib.hid (show (gk n 0 j).length ≤ 1073741824 by rw [gk_len]; omega)
      have hw1 : IntKind.i64.wrap ((j : Int) + 1) = (j : Int) + 1 := IntWalk.i64_in _ (by omega)
      have hw2 : IntKind.i64.wrap (6 + (j : Int)) = 6 + (j : Int) := IntWalk.i64_in _ (by omega)
      have hw3 : IntKind.i64.wrap (1 + (E : Int)) = 1 + (E : Int) := IntWalk.i64_in _ (by omega)
      clear hdj hE
      go_wp2_with fail
      refine (HD.out wr).mono ?_
      rintro e w' ⟨rfl, rfl⟩
      go_wp2
      refine wp_region_held_drew (S := fun w' => True) (by kernel_rfl) trivial (fun _ => ?_)
      replace HZ5 := Lib.hid (show wr.drew.heap[w.heap.size]? = some (gBox (.slice none 0 0) 0 0 0) from by first | exact HZ5.out | (have hq : Below wr.heap.size wr wr.drew := (Below.refl _ wr).drew; exact below_block HZ5.out hq))
      replace HB5 := Lib.hid (show Below w.heap.size w wr.drew from by first | exact HB5.out | (have hq : Below wr.heap.size wr wr.drew := (Below.refl _ wr).drew; exact HB5.out.trans (hq.mono HB5.out.size)))
      replace HS5 := Lib.hid (show w3.heap.size ≤ wr.drew.heap.size from by first | exact HS5.out | (have hq : Below wr.heap.size wr wr.drew := (Below.refl _ wr).drew; exact Nat.le_trans HS5.out hq.size))
      replace HM5 := Lib.hid (show OwnM w3.heap.size wr.drew (.slice sa slen sc) (gk n 0 j) from HM5.out)
      replace HG5 := Lib.hid (show wr.drew.heap[G]? = some (gBox (.slice sa slen sc) k c f) from HG5.out)
      have hS : True := trivial
      generalize wr.drew = wa at HZ5 HB5 HS5 HM5 HG5 hS ⊢
      refine takeH (i := 0) (v := ?_) rfl (by kernel_rfl) (by kernel_rfl) (by kernel_rfl) (fun _ _ _ h => h) (Or.inl ⟨by rfl, ?_⟩) (by assumption) ?_
      rotate_left
      · (intro w hSw; (try dsimp only at hSw); go_simp; first | done | with_reducible rfl)
      (try simp only [Act.put, List.setIfInBounds_toArray, List.set_cons_zero, List.set_cons_succ])
      refine takeH (i := 2) (v := ?_) rfl (by kernel_rfl) (by kernel_rfl) (by kernel_rfl) (fun _ _ _ h => h) (Or.inl ⟨by rfl, ?_⟩) (by assumption) ?_
      rotate_left
      · (intro w hSw; (try dsimp only at hSw); go_simp; first | done | with_reducible rfl)
      (try simp only [Act.put, List.setIfInBounds_toArray, List.set_cons_zero, List.set_cons_succ])
      refine takeH (i := 3) (v := ?_) rfl (by kernel_rfl) (by kernel_rfl) (by kernel_rfl) (fun _ _ _ h => h) (Or.inl ⟨by rfl, ?_⟩) (by assumption) ?_
      rotate_left
      · (intro w hSw; (try dsimp only at hSw); go_simp; first | done | with_reducible rfl)
      (try simp only [Act.put, List.setIfInBounds_toArray, List.set_cons_zero, List.set_cons_succ])
      refine takeH (i := 4) (v := ?_) rfl (by kernel_rfl) (by kernel_rfl) (by kernel_rfl) (fun _ _ _ h => h) (Or.inl ⟨by rfl, ?_⟩) (by assumption) ?_
      rotate_left
      · (intro w hSw; (try dsimp only at hSw); go_simp; first | done | with_reducible rfl)
      (try simp only [Act.put, List.setIfInBounds_toArray, List.set_cons_zero, List.set_cons_succ])
      refine takeH (i := 5) (v := ?_) rfl (by kernel_rfl) (by kernel_rfl) (by kernel_rfl) (fun _ _ _ h => h) (Or.inl ⟨by rfl, ?_⟩) (by assumption) ?_
      rotate_left
      · (intro w hSw; (try dsimp only at hSw); go_simp; first | done | with_reducible rfl)
      (try simp only [Act.put, List.setIfInBounds_toArray, List.set_cons_zero, List.set_cons_succ])
      refine takeH (i := 6) (v := ?_) rfl (by kernel_rfl) (by kernel_rfl) (by kernel_rfl) (fun _ _ _ h => h) (Or.inl ⟨by rfl, ?_⟩) (by assumption) ?_
      rotate_left
      · (intro w hSw; (try dsimp only at hSw); go_simp; first | done | with_reducible rfl)
      (try simp only [Act.put, List.setIfInBounds_toArray, List.set_cons_zero, List.set_cons_succ])
      refine wpAnyH_ready (rs := [1, 7]) (by kernel_rfl) (by simp) ?_
      refine stepH rfl (fun K hK => ?_) (stepH rfl (fun K hK => ?_) AllReadyH.nil)
      · obtain ⟨⟨q0, q1, q2, q3⟩, _⟩ := row4_at (HG5.out)
        go_simp
        refine hK.out _ _ (trivial) (fun _ => ?_)
        clear hK K
        (try simp only [Act.put, List.setIfInBounds_toArray, List.set_cons_zero, List.set_cons_succ])
        clear q0 q1 q2 q3
        refine wpAnyH_ready (rs := [7]) (by kernel_rfl) (by simp) ?_
        refine stepH rfl (fun K hK => ?_) AllReadyH.nil
        go_simp
        refine (HDJ.out wa).mono ?_
        rintro e w' ⟨rfl, rfl⟩
        go_wp2_with fail
        refine hK.out _ _ (trivial) (fun _ => ?_)
        clear hK K
        (try simp only [Act.put, List.setIfInBounds_toArray, List.set_cons_zero, List.set_cons_succ])
        refine takeH (i := 8) (v := ?_) rfl (by kernel_rfl) (by kernel_rfl) (by kernel_rfl) (fun _ _ _ h => h) (Or.inl ⟨by rfl, ?_⟩) (by assumption) ?_
        rotate_left
        · (intro w hSw; (try dsimp only at hSw); go_simp; first | done | with_reducible rfl)
        (try simp only [Act.put, List.setIfInBounds_toArray, List.set_cons_zero, List.set_cons_succ])
        refine takeH (i := 9) (v := ?_) rfl (by kernel_rfl) (by kernel_rfl) (by kernel_rfl) (fun _ _ _ h => h) (Or.inl ⟨by rfl, ?_⟩) (by assumption) ?_
        rotate_left
        · (intro w hSw; (try dsimp only at hSw); go_simp; first | done | with_reducible rfl)
        (try simp only [Act.put, List.setIfInBounds_toArray, List.set_cons_zero, List.set_cons_succ])
        refine wpAnyH_ready (rs := [10]) (by kernel_rfl) (by simp) ?_
        refine stepH rfl (fun K hK => ?_) AllReadyH.nil
        go_simp
        refine hK.out _ _ (trivial) (fun _ => ?_)
        clear hK K
        (try simp only [Act.put, List.setIfInBounds_toArray, List.set_cons_zero, List.set_cons_succ])
        refine wpAnyH_ready (rs := [11]) (by kernel_rfl) (by simp) ?_
        refine stepH rfl (fun K hK => ?_) AllReadyH.nil
        refine step_appG1 memE ((j : Int) + 1, 1 + (E : Int)) rfl (.tmp 15) (.tmp 24) rfl (by rfl) HM5.out (by rfl) HLN.out HS5.out ?_
        intro vy wy hoy hb hk
        obtain ⟨ay, ly, cy, hvy⟩ : ∃ a l c, vy = .slice a l c := (by obtain ⟨a, c, h, _⟩ := hoy.rd.shape; exact ⟨a, _, c, h⟩)
        subst hvy
        replace HZ5 := Lib.hid (show wy.heap[w.heap.size]? = some (gBox (.slice none 0 0) 0 0 0) from hk.at HZ5.out (by decide))
        replace HB5 := Lib.hid (show Below w.heap.size w wy from HB5.out.trans (hb.mono (by have := HGZ.out; have := HG4.out; omega)))
        replace HS5 := Lib.hid (show w3.heap.size ≤ wy.heap.size from Nat.le_trans HS5.out hb.size)
        replace HG5 := Lib.hid (hk.at HG5.out (by decide))
        replace HM5 := Lib.hid hoy
        replace hS : True := trivial
        clear hoy hb hk
        refine hK.out _ _ (trivial) (fun _ => ?_)
        clear hK K
        (try simp only [Act.put, List.setIfInBounds_toArray, List.set_cons_zero, List.set_cons_succ])
        refine takeH (i := 12) (v := ?_) rfl (by kernel_rfl) (by kernel_rfl) (by kernel_rfl) (fun _ _ _ h => h) (Or.inl ⟨by rfl, ?_⟩) (by assumption) ?_
        rotate_left
        · (intro w hSw; (try dsimp only at hSw); go_simp; first | done | with_reducible rfl)
        (try simp only [Act.put, List.setIfInBounds_toArray, List.set_cons_zero, List.set_cons_succ])
        obtain ⟨⟨q0, q1, q2, q3⟩, g0, g1, g2, g3⟩ := row4_at HG5.out
        have hg8 : (wy.setCell ⟨G, 0, none⟩ (.slice ay ly cy)).heap[G]? = some (gBox (.slice ay ly cy) k c f) := heap_setCell_same wy _ 0 _ _ _ HG5.out
        have ho : Only (G) wy (wy.setCell ⟨G, 0, none⟩ (.slice ay ly cy)) := Only.set 0 _
        replace HM5 := Lib.hid (ownG_only HM5.out HG5.out (by decide) ho)
        replace HZ5 := Lib.hid (show (wy.setCell ⟨G, 0, none⟩ (.slice ay ly cy)).heap[w.heap.size]? = some (gBox (.slice none 0 0) 0 0 0) from ho.at HZ5.out (by have := HGZ.out; omega))
        replace HB5 := Lib.hid (show Below w.heap.size w (wy.setCell ⟨G, 0, none⟩ (.slice ay ly cy)) from HB5.out.trans (ho.below (by have := HGZ.out; omega) HB5.out.size))
        replace HS5 := Lib.hid (show w3.heap.size ≤ (wy.setCell ⟨G, 0, none⟩ (.slice ay ly cy)).heap.size from Nat.le_trans HS5.out ho.size)
        replace HG5 := Lib.hid hg8
        replace hS : True := trivial
        clear hg8 ho
        refine wpAnyH_ready (rs := [13]) (by kernel_rfl) (by simp) ?_
        refine stepH rfl (fun K hK => ?_) AllReadyH.nil
        go_simp
        refine hK.out _ _ (trivial) (fun _ => ?_)
        clear hK K
        (try simp only [Act.put, List.setIfInBounds_toArray, List.set_cons_zero, List.set_cons_succ])
        refine wpAnyH_done (by kernel_rfl) ?_ _
        generalize (wy.setCell ⟨G, 0, none⟩ (.slice ay ly cy)) = wz at HZ5 HB5 HS5 HM5 HG5 hS ⊢
        clear hS q0 q1 q2 q3 g0 g1 g2 g3
        go_wp2
        go_roundw
        case rel => exact ⟨j + 1, _, by omega, by go_num, HZ5, HG5, Lib.hid (by rw [HSN.out]; exact HM5.out), HB5, HS5⟩
        case measure => simp [intOf]; omega
      · go_simp
        refine (HDJ.out wa).mono ?_
        rintro e w' ⟨rfl, rfl⟩
        go_wp2_with fail
        refine hK.out _ _ (trivial) (fun _ => ?_)
        clear hK K
        (try simp only [Act.put, List.setIfInBounds_toArray, List.set_cons_zero, List.set_cons_succ])
        refine takeH (i := 8) (v := ?_) rfl (by kernel_rfl) (by kernel_rfl) (by kernel_rfl) (fun _ _ _ h => h) (Or.inl ⟨by rfl, ?_⟩) (by assumption) ?_
        rotate_left
        · (intro w hSw; (try dsimp only at hSw); go_simp; first | done | with_reducible rfl)
        (try simp only [Act.put, List.setIfInBounds_toArray, List.set_cons_zero, List.set_cons_succ])
        refine takeH (i := 9) (v := ?_) rfl (by kernel_rfl) (by kernel_rfl) (by kernel_rfl) (fun _ _ _ h => h) (Or.inl ⟨by rfl, ?_⟩) (by assumption) ?_
        rotate_left
        · (intro w hSw; (try dsimp only at hSw); go_simp; first | done | with_reducible rfl)
        (try simp only [Act.put, List.setIfInBounds_toArray, List.set_cons_zero, List.set_cons_succ])
        refine wpAnyH_ready (rs := [1, 10]) (by kernel_rfl) (by simp) ?_
        refine stepH rfl (fun K hK => ?_) (stepH rfl (fun K hK => ?_) AllReadyH.nil)
        · obtain ⟨⟨q0, q1, q2, q3⟩, _⟩ := row4_at (HG5.out)
          go_simp
          refine hK.out _ _ (trivial) (fun _ => ?_)
          clear hK K
          (try simp only [Act.put, List.setIfInBounds_toArray, List.set_cons_zero, List.set_cons_succ])
          clear q0 q1 q2 q3
          refine wpAnyH_ready (rs := [10]) (by kernel_rfl) (by simp) ?_
          refine stepH rfl (fun K hK => ?_) AllReadyH.nil
          go_simp
          refine hK.out _ _ (trivial) (fun _ => ?_)
          clear hK K
          (try simp only [Act.put, List.setIfInBounds_toArray, List.set_cons_zero, List.set_cons_succ])
          refine wpAnyH_ready (rs := [11]) (by kernel_rfl) (by simp) ?_
          refine stepH rfl (fun K hK => ?_) AllReadyH.nil
          refine step_appG1 memE ((j : Int) + 1, 1 + (E : Int)) rfl (.tmp 15) (.tmp 24) rfl (by rfl) HM5.out (by rfl) HLN.out HS5.out ?_
          intro vy wy hoy hb hk
          obtain ⟨ay, ly, cy, hvy⟩ : ∃ a l c, vy = .slice a l c := (by obtain ⟨a, c, h, _⟩ := hoy.rd.shape; exact ⟨a, _, c, h⟩)
          subst hvy
          replace HZ5 := Lib.hid (show wy.heap[w.heap.size]? = some (gBox (.slice none 0 0) 0 0 0) from hk.at HZ5.out (by decide))
          replace HB5 := Lib.hid (show Below w.heap.size w wy from HB5.out.trans (hb.mono (by have := HGZ.out; have := HG4.out; omega)))
          replace HS5 := Lib.hid (show w3.heap.size ≤ wy.heap.size from Nat.le_trans HS5.out hb.size)
          replace HG5 := Lib.hid (hk.at HG5.out (by decide))
          replace HM5 := Lib.hid hoy
          replace hS : True := trivial
          clear hoy hb hk
          refine hK.out _ _ (trivial) (fun _ => ?_)
          clear hK K
          (try simp only [Act.put, List.setIfInBounds_toArray, List.set_cons_zero, List.set_cons_succ])
          refine takeH (i := 12) (v := ?_) rfl (by kernel_rfl) (by kernel_rfl) (by kernel_rfl) (fun _ _ _ h => h) (Or.inl ⟨by rfl, ?_⟩) (by assumption) ?_
          rotate_left
          · (intro w hSw; (try dsimp only at hSw); go_simp; first | done | with_reducible rfl)
          (try simp only [Act.put, List.setIfInBounds_toArray, List.set_cons_zero, List.set_cons_succ])
          obtain ⟨⟨q0, q1, q2, q3⟩, g0, g1, g2, g3⟩ := row4_at HG5.out
          have hg8 : (wy.setCell ⟨G, 0, none⟩ (.slice ay ly cy)).heap[G]? = some (gBox (.slice ay ly cy) k c f) := heap_setCell_same wy _ 0 _ _ _ HG5.out
          have ho : Only (G) wy (wy.setCell ⟨G, 0, none⟩ (.slice ay ly cy)) := Only.set 0 _
          replace HM5 := Lib.hid (ownG_only HM5.out HG5.out (by decide) ho)
          replace HZ5 := Lib.hid (show (wy.setCell ⟨G, 0, none⟩ (.slice ay ly cy)).heap[w.heap.size]? = some (gBox (.slice none 0 0) 0 0 0) from ho.at HZ5.out (by have := HGZ.out; omega))
          replace HB5 := Lib.hid (show Below w.heap.size w (wy.setCell ⟨G, 0, none⟩ (.slice ay ly cy)) from HB5.out.trans (ho.below (by have := HGZ.out; omega) HB5.out.size))
          replace HS5 := Lib.hid (show w3.heap.size ≤ (wy.setCell ⟨G, 0, none⟩ (.slice ay ly cy)).heap.size from Nat.le_trans HS5.out ho.size)
          replace HG5 := Lib.hid hg8
          replace hS : True := trivial
          clear hg8 ho
          refine wpAnyH_ready (rs := [13]) (by kernel_rfl) (by simp) ?_
          refine stepH rfl (fun K hK => ?_) AllReadyH.nil
          go_simp
          refine hK.out _ _ (trivial) (fun _ => ?_)
          clear hK K
          (try simp only [Act.put, List.setIfInBounds_toArray, List.set_cons_zero, List.set_cons_succ])
          refine wpAnyH_done (by kernel_rfl) ?_ _
          generalize (wy.setCell ⟨G, 0, none⟩ (.slice ay ly cy)) = wz at HZ5 HB5 HS5 HM5 HG5 hS ⊢
          clear hS q0 q1 q2 q3 g0 g1 g2 g3
          go_wp2
          go_roundw
          case rel => exact ⟨j + 1, _, by omega, by go_num, HZ5, HG5, Lib.hid (by rw [HSN.out]; exact HM5.out), HB5, HS5⟩
          case measure => simp [intOf]; omega
        · go_simp
          refine hK.out _ _ (trivial) (fun _ => ?_)
          clear hK K
          (try simp only [Act.put, List.setIfInBounds_toArray, List.set_cons_zero, List.set_cons_succ])
          refine wpAnyH_ready (rs := [1]) (by kernel_rfl) (by simp) ?_
          refine stepH rfl (fun K hK => ?_) AllReadyH.nil
          obtain ⟨⟨q0, q1, q2, q3⟩, _⟩ := row4_at (below_block HG5.out (below_fresh wa (.cells #[.int .i64 ((j : Int) + 1), .int .i64 (1 + (E : Int))] 45)))
          go_simp
          refine hK.out _ _ (trivial) (fun _ => ?_)
          clear hK K
          (try simp only [Act.put, List.setIfInBounds_toArray, List.set_cons_zero, List.set_cons_succ])
          clear q0 q1 q2 q3
          refine wpAnyH_ready (rs := [11]) (by kernel_rfl) (by simp) ?_
          refine stepH rfl (fun K hK => ?_) AllReadyH.nil
          refine step_appG1 memE ((j : Int) + 1, 1 + (E : Int)) rfl (.tmp 15) (.tmp 24) rfl (by rfl) HM5.out (by rfl) HLN.out HS5.out ?_
          intro vy wy hoy hb hk
          obtain ⟨ay, ly, cy, hvy⟩ : ∃ a l c, vy = .slice a l c := (by obtain ⟨a, c, h, _⟩ := hoy.rd.shape; exact ⟨a, _, c, h⟩)
          subst hvy
          replace HZ5 := Lib.hid (show wy.heap[w.heap.size]? = some (gBox (.slice none 0 0) 0 0 0) from hk.at HZ5.out (by decide))
          replace HB5 := Lib.hid (show Below w.heap.size w wy from HB5.out.trans (hb.mono (by have := HGZ.out; have := HG4.out; omega)))
          replace HS5 := Lib.hid (show w3.heap.size ≤ wy.heap.size from Nat.le_trans HS5.out hb.size)
          replace HG5 := Lib.hid (hk.at HG5.out (by decide))
          replace HM5 := Lib.hid hoy
          replace hS : True := trivial
          clear hoy hb hk
          refine hK.out _ _ (trivial) (fun _ => ?_)
          clear hK K
          (try simp only [Act.put, List.setIfInBounds_toArray, List.set_cons_zero, List.set_cons_succ])
          refine takeH (i := 12) (v := ?_) rfl (by kernel_rfl) (by kernel_rfl) (by kernel_rfl) (fun _ _ _ h => h) (Or.inl ⟨by rfl, ?_⟩) (by assumption) ?_
          rotate_left
          · (intro w hSw; (try dsimp only at hSw); go_simp; first | done | with_reducible rfl)
          (try simp only [Act.put, List.setIfInBounds_toArray, List.set_cons_zero, List.set_cons_succ])
          obtain ⟨⟨q0, q1, q2, q3⟩, g0, g1, g2, g3⟩ := row4_at HG5.out
          have hg8 : (wy.setCell ⟨G, 0, none⟩ (.slice ay ly cy)).heap[G]? = some (gBox (.slice ay ly cy) k c f) := heap_setCell_same wy _ 0 _ _ _ HG5.out
          have ho : Only (G) wy (wy.setCell ⟨G, 0, none⟩ (.slice ay ly cy)) := Only.set 0 _
          replace HM5 := Lib.hid (ownG_only HM5.out HG5.out (by decide) ho)
          replace HZ5 := Lib.hid (show (wy.setCell ⟨G, 0, none⟩ (.slice ay ly cy)).heap[w.heap.size]? = some (gBox (.slice none 0 0) 0 0 0) from ho.at HZ5.out (by have := HGZ.out; omega))
          replace HB5 := Lib.hid (show Below w.heap.size w (wy.setCell ⟨G, 0, none⟩ (.slice ay ly cy)) from HB5.out.trans (ho.below (by have := HGZ.out; omega) HB5.out.size))
          replace HS5 := Lib.hid (show w3.heap.size ≤ (wy.setCell ⟨G, 0, none⟩ (.slice ay ly cy)).heap.size from Nat.le_trans HS5.out ho.size)
          replace HG5 := Lib.hid hg8
          replace hS : True := trivial
          clear hg8 ho
          refine wpAnyH_ready (rs := [13]) (by kernel_rfl) (by simp) ?_
          refine stepH rfl (fun K hK => ?_) AllReadyH.nil
          go_simp
          refine hK.out _ _ (trivial) (fun _ => ?_)
          clear hK K
          (try simp only [Act.put, List.setIfInBounds_toArray, List.set_cons_zero, List.set_cons_succ])
          refine wpAnyH_done (by kernel_rfl) ?_ _
          generalize (wy.setCell ⟨G, 0, none⟩ (.slice ay ly cy)) = wz at HZ5 HB5 HS5 HM5 HG5 hS ⊢
          clear hS q0 q1 q2 q3 g0 g1 g2 g3
          go_wp2
          go_roundw
          case rel => exact ⟨j + 1, _, by omega, by go_num, HZ5, HG5, Lib.hid (by rw [HSN.out]; exact HM5.out), HB5, HS5⟩
          case measure => simp [intOf]; omega
    · have hq : ¬ (j : Int) ≤ (D : Int) := by omega
      obtain rfl : j = D + 1 := by omega
      have HV := Lib.hid (gk_val n 0 (D + 1) (by omega))
      have HLG := Lib.hid (gk_len n 0 (D + 1))
      clear hlt
      generalize gk n 0 (D + 1) = ms at HM5 HV HLG
      go_wp2_with fail
      refine (HD.out wr).mono ?_
      rintro e w' ⟨rfl, rfl⟩
      obtain ⟨⟨z0, z1, z2, z3⟩, f0, f1, f2, f3⟩ := row4_at HZ5.out
      obtain ⟨⟨y0, y1, y2, y3⟩, _⟩ := row4_at HG5.out
      go_wp2
      have hput := row4_put HZ5.out (.slice sa slen sc) (.int .i64 k) (.int .i64 c) (.int .i64 f) w.heap.size (Nat.le_refl _)
      have hon := onlyc4 (w := wr) (g := w.heap.size) (.slice sa slen sc) (.int .i64 k) (.int .i64 c) (.int .i64 f)
      refine kg_ret rfl hput.1 rfl ⟨_, k, c, f, ms, rfl, (ownG_only HM5.out HZ5.out (by decide) hon).rd, ?_, HB5.out.trans hput.2⟩
      have h1 : MM.errM 0 ms = 0 := MM.errM_val.2 HV.out
      have h2 : ms ≠ [] := fun h => by have := HLG.out; rw [h] at this; simp at this
      unfold MM.errG MM.errV
      rw [if_pos HRL.out, h1, if_pos rfl, if_neg h2]

end Go.Proofs.YtdipheijagjelaaGreat
