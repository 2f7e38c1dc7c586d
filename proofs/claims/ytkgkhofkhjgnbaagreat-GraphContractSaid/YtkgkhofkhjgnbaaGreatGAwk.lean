/-
  The call of the laws' awake: it returns true. Conditions: what GCon's structure says of the program's calls.
-/
import Derived.Deep.RegionHeld3
import Derived.Test.YtkgkhofkhjgnbaaGreatGCon
namespace Go.Proofs.YtkgkhofkhjgnbaaGreat
open Go.RowKit Go.Joins Go.Shelf
open JM (Chg)
open CM (Fp)
open VM (Ent)

def Lg : List Chg := [(1, 9, 1, 0, 0, 0, 0)]
def Fg1 : Fp := (201, 1, Lg)
def Fg2 : Fp := (202, 1, Lg)
theorem ok_g : CM.Ok [Fg1, Fg2] := by show CM.errL (0, 0) [Fg1, Fg2] = 0; decide
theorem ok_g1 : CM.Ok [Fg1] := by show CM.errL (0, 0) [Fg1] = 0; decide
theorem ok_g0 : CM.Ok [] := rfl
theorem g_all : (IM.all [] [Fg1, Fg2]).length = 4 := by decide +kernel
theorem g_edg : (IM.edgK (IM.all [] [Fg1, Fg2])).length = 4 := by decide +kernel
theorem g_pv : IM.pv (IM.all [] [Fg1, Fg2]) (IM.edgK (IM.all [] [Fg1, Fg2])) 0 3 = 2 := by decide +kernel
theorem g_path : (IM.pathV (IM.all [] [Fg1, Fg2]) (IM.edgK (IM.all [] [Fg1, Fg2])) 0 3).length = 3 := by decide +kernel
theorem g_lvs : (IM.lvs (IM.all [] [Fg1, Fg2]) 10).length = 3 := by decide +kernel
theorem g_con : ((IM.all [] [Fg1, Fg2]).filter fun x => CM.conk x [Fg1]).length = 2 := by decide +kernel
theorem g_pru : ((IM.all [] [Fg1, Fg2]).filter fun x => CM.conk x [Fg1] || CM.conk [Fg1] x).length = 3 := by decide +kernel

theorem RdG.takeG {α : Type} {enc : α → List Value} {size : Nat} {w : World} {a : Option Addr} {n c : Nat} {xs : List α} (h : RdG enc size w (.slice a n c) xs) (hi : Nat) (h2 : hi ≤ xs.length) : RdG enc size w (.slice a hi c) (xs.take hi) := by
  obtain ⟨a', c', hv, h3, h4, h5, ⟨hp, hl⟩, h6⟩ := h
  cases hv
  refine ⟨a, c, by rw [List.length_take]; congr 1; omega, by rw [List.length_take]; omega, h4, fun ha => ?_, ⟨hp, hl⟩, fun x hx j u hu => ?_⟩
  · obtain ⟨rfl, rfl⟩ := h5 ha
    simp
  · refine h6 x hx j u ?_
    rw [cellsOf_take hl xs hi h2, List.getElem?_take] at hu
    split at hu
    · exact hu
    · cases hu
theorem awake10_blocks (w : World) :
    ∃ w2, ((w.alloc (.cells #[.int .i64 1, .int .i64 9, .int .i64 1, .int .i64 0, .int .i64 0, .int .i64 0, .int .i64 0] 62)).alloc (.cells #[.int .i64 201, .int .i64 1, .slice (some ⟨w.heap.size, 0, none⟩) 1 1, .int .i64 202, .int .i64 1, .slice (some ⟨w.heap.size, 0, none⟩) 1 1] 55)) = w2 ∧ Below w.heap.size w w2 ∧
      RdF w2 (.slice (some ⟨w.heap.size + 1, 0, none⟩) 2 2) [Fg1, Fg2] ∧ RdF w2 (.slice (some ⟨w.heap.size + 1, 0, none⟩) 1 2) [Fg1] := by
  have b1 := below_fresh w (.cells #[.int .i64 1, .int .i64 9, .int .i64 1, .int .i64 0, .int .i64 0, .int .i64 0, .int .i64 0] 62)
  have z1 := World.size_alloc w (.cells #[.int .i64 1, .int .i64 9, .int .i64 1, .int .i64 0, .int .i64 0, .int .i64 0, .int .i64 0] 62)
  have h1 : RdC (w.alloc (.cells #[.int .i64 1, .int .i64 9, .int .i64 1, .int .i64 0, .int .i64 0, .int .i64 0, .int .i64 0] 62)) (.slice (some ⟨w.heap.size, 0, none⟩) 1 1) Lg := (ownG_fresh hlC 62 w Lg (by simp [maxLen, Lg])).rd
  generalize w.alloc (.cells #[.int .i64 1, .int .i64 9, .int .i64 1, .int .i64 0, .int .i64 0, .int .i64 0, .int .i64 0] 62) = w1 at *
  have b2 := below_fresh w1 (.cells #[.int .i64 201, .int .i64 1, .slice (some ⟨w.heap.size, 0, none⟩) 1 1, .int .i64 202, .int .i64 1, .slice (some ⟨w.heap.size, 0, none⟩) 1 1] 55)
  have h2 : RdQ (w1.alloc (.cells #[.int .i64 201, .int .i64 1, .slice (some ⟨w.heap.size, 0, none⟩) 1 1, .int .i64 202, .int .i64 1, .slice (some ⟨w.heap.size, 0, none⟩) 1 1] 55)) (.slice (some ⟨w1.heap.size, 0, none⟩) 2 2) [(201, 1, some ⟨w.heap.size, 0, none⟩, 1, 1), (202, 1, some ⟨w.heap.size, 0, none⟩, 1, 1)] :=
    (ownG_fresh hlQ 55 w1 [(201, 1, some ⟨w.heap.size, 0, none⟩, 1, 1), (202, 1, some ⟨w.heap.size, 0, none⟩, 1, 1)] (by simp [maxLen])).rd
  rw [z1] at h2
  have hC := h1.below b2
  exact ⟨_, rfl, bnext b1 b2, ⟨_, h2, ⟨rfl, rfl, hC⟩, ⟨rfl, rfl, hC⟩, trivial⟩, ⟨_, h2.takeG 1 (by simp), ⟨rfl, rfl, hC⟩, trivial⟩⟩

set_option maxRecDepth 100000 in
set_option maxHeartbeats 4000000 in
theorem cAwake10 (H : GC) (w : World) : Calls Tryz.prog 14 #[] w fun e w' => e = .returned (.bool true) ∧ Below w.heap.size w w' := by
  obtain ⟨w2, hw2, hB, hF, hF1⟩ := awake10_blocks w
  have gd : IM.Gd [Fg1, Fg2] (IM.all [] [Fg1, Fg2]) := IM.Gd.all ok_g0 ok_g (by decide)
  have HBU := Lib.hid (H.build (.slice none 0 0) _ [] [Fg1, Fg2] w2 (RdF.nil w2) hF ok_g0 ok_g)
  have HPS := Lib.hid (fun gv w' (h : RdGr w' gv (IM.all [] [Fg1, Fg2])) => by
    have := H.paths [Fg1, Fg2] gv _ 0 3 w' ok_g gd h
    rw [g_pv] at this
    exact this)
  have HPA := Lib.hid (fun gv w' (h : RdGr w' gv (IM.all [] [Fg1, Fg2])) => H.path [Fg1, Fg2] gv _ 0 3 w' ok_g gd h)
  have HLV := Lib.hid (fun gv w' (h : RdGr w' gv (IM.all [] [Fg1, Fg2])) => H.levels [Fg1, Fg2] gv _ w' ok_g gd h)
  have HCO := Lib.hid (fun gv w' (hb : Below w2.heap.size w2 w') (h : RdGr w' gv (IM.all [] [Fg1, Fg2])) => H.contract [Fg1, Fg2] gv _ _ [Fg1] w' ok_g gd h (hF1.below hb) ok_g1 (by decide))
  have HPR := Lib.hid (fun gv w' (hb : Below w2.heap.size w2 w') (h : RdGr w' gv (IM.all [] [Fg1, Fg2])) => H.prune [Fg1, Fg2] gv _ _ [Fg1] w' ok_g gd h (hF1.below hb) ok_g1 (by decide))
  have HEQ := Lib.hid (fun gv w' (h : RdGr w' gv (IM.all [] [Fg1, Fg2])) => H.equal [Fg1, Fg2] gv gv _ _ w' ok_g gd h h rfl)
  have HB := Lib.hid hB
  have HW := Lib.hid hw2
  have HLA := Lib.hid g_all
  have HLE := Lib.hid g_edg
  clear hB hF hF1 hw2 gd
  have HL2 := Lib.hid g_con
  have HL3 := Lib.hid g_pru
  have HL4 := Lib.hid g_path
  have HL5 := Lib.hid g_lvs
  generalize IM.all [] [Fg1, Fg2] = L at *
  go_enter Tryz.func14, Tryz.ntmps14
  go_upto_region 3 with fail
  rw [HW.out]
  go_wp2_with fail
  refine HBU.out.mono ?_
  rintro e w3 ⟨v3, rfl, hr3, hb3⟩
  have HR3 := Lib.hid hr3
  obtain ⟨nv, ev, rfl, hn, he⟩ := hr3
  obtain ⟨na, nc, hnv, _, _⟩ := hn.shape
  rw [HLA.out] at hnv
  subst hnv
  obtain ⟨ea, ec, hev, _, _⟩ := he.shape
  rw [HLE.out] at hev
  subst hev
  have HB3 := Lib.hid hb3
  clear hn he hb3 HBU HW
  go_upto_region 4 with fail
  obtain ⟨w4, hw4⟩ : ∃ w4, w4 = w3.alloc (.cells #[.slice na 4 nc, .slice ea 4 ec] 31) := ⟨_, rfl⟩
  rw [← hw4]
  have ka0 : w4.cell? ⟨w3.heap.size, 0, none⟩ = some (.slice na 4 nc) := by rw [hw4]; exact World.cell?_alloc_new _ _ _ 0
  have ka1 : w4.cell? ⟨w3.heap.size, 1, none⟩ = some (.slice ea 4 ec) := by rw [hw4]; exact World.cell?_alloc_new _ _ _ 1
  have hb34 : Below w3.heap.size w3 w4 := by rw [hw4]; exact below_fresh w3 _
  have HR4 := Lib.hid (HR3.out.below hb34)
  have HB4 := Lib.hid (bnext HB3.out hb34)
  have HK := Lib.hid (fun wx (hb : Below w4.heap.size w4 wx) => (⟨below_cell hb ka0, below_cell hb ka1⟩ : wx.cell? ⟨w3.heap.size, 0, none⟩ = some (.slice na 4 nc) ∧ wx.cell? ⟨w3.heap.size, 1, none⟩ = some (.slice ea 4 ec)))
  clear ka0 ka1 hb34 hw4 HR3 HB3 HLA HLE
  have hfn := fun (x y : Value) (w : World) => run_fieldN x y w
  generalize w3.heap.size = g3 at *
  refine wp_region_held_drew (S := fun w' => Below w4.heap.size w4 w') (by kernel_rfl) ((Below.refl _ _).drew) (fun ha => ?_)
  replace ha : Below w4.heap.size w4 w4.drew := (Below.refl _ _).drew
  generalize w4.drew = wa at ha ⊢
  refine takeH (i := 0) (v := ?_) rfl (by kernel_rfl) (by kernel_rfl) (by kernel_rfl) (fun _ _ _ h => h) (Or.inl ⟨by rfl, ?_⟩) (by assumption) ?_
  rotate_left
  · (intro w hSw; (try dsimp only at hSw); go_simp; first | done | with_reducible rfl)
  (try simp only [Act.put, List.setIfInBounds_toArray, List.set_cons_zero, List.set_cons_succ])
  refine takeH (i := 1) (v := ?_) rfl (by kernel_rfl) (by kernel_rfl) (by kernel_rfl) (fun _ _ _ h => h) (Or.inl ⟨by rfl, ?_⟩) (by assumption) ?_
  rotate_left
  · (intro w hSw; (try dsimp only at hSw); obtain ⟨c0, c1⟩ := HK.out w hSw; go_simp; first | done | with_reducible rfl)
  (try simp only [Act.put, List.setIfInBounds_toArray, List.set_cons_zero, List.set_cons_succ])
  refine takeH (i := 2) (v := ?_) rfl (by kernel_rfl) (by kernel_rfl) (by kernel_rfl) (fun _ _ _ h => h) (Or.inl ⟨by rfl, ?_⟩) (by assumption) ?_
  rotate_left
  · (intro w hSw; (try dsimp only at hSw); go_simp; first | done | with_reducible rfl)
  (try simp only [Act.put, List.setIfInBounds_toArray, List.set_cons_zero, List.set_cons_succ])
  refine takeH (i := 3) (v := ?_) rfl (by kernel_rfl) (by kernel_rfl) (by kernel_rfl) (fun _ _ _ h => h) (Or.inl ⟨by rfl, ?_⟩) (by assumption) ?_
  rotate_left
  · (intro w hSw; (try dsimp only at hSw); go_simp; first | done | with_reducible rfl)
  (try simp only [Act.put, List.setIfInBounds_toArray, List.set_cons_zero, List.set_cons_succ])
  refine takeH (i := 4) (v := ?_) rfl (by kernel_rfl) (by kernel_rfl) (by kernel_rfl) (fun _ _ _ h => h) (Or.inl ⟨by rfl, ?_⟩) (by assumption) ?_
  rotate_left
  · (intro w hSw; (try dsimp only at hSw); go_simp; first | done | with_reducible rfl)
  (try simp only [Act.put, List.setIfInBounds_toArray, List.set_cons_zero, List.set_cons_succ])
  refine takeH (i := 5) (v := ?_) rfl (by kernel_rfl) (by kernel_rfl) (by kernel_rfl) (fun _ _ _ h => h) (Or.inl ⟨by rfl, ?_⟩) (by assumption) ?_
  rotate_left
  · (intro w hSw; (try dsimp only at hSw); go_simp; first | done | with_reducible rfl)
  (try simp only [Act.put, List.setIfInBounds_toArray, List.set_cons_zero, List.set_cons_succ])
  refine takeH (i := 6) (v := ?_) rfl (by kernel_rfl) (by kernel_rfl) (by kernel_rfl) (fun _ _ _ h => h) (Or.inl ⟨by rfl, ?_⟩) (by assumption) ?_
  rotate_left
  · (intro w hSw; (try dsimp only at hSw); obtain ⟨c0, c1⟩ := HK.out w hSw; go_simp; first | done | with_reducible rfl)
  (try simp only [Act.put, List.setIfInBounds_toArray, List.set_cons_zero, List.set_cons_succ])
  refine takeH (i := 7) (v := ?_) rfl (by kernel_rfl) (by kernel_rfl) (by kernel_rfl) (fun _ _ _ h => h) (Or.inl ⟨by rfl, ?_⟩) (by assumption) ?_
  rotate_left
  · (intro w hSw; (try dsimp only at hSw); go_simp; first | done | with_reducible rfl)
  (try simp only [Act.put, List.setIfInBounds_toArray, List.set_cons_zero, List.set_cons_succ])
  refine takeH (i := 8) (v := ?_) rfl (by kernel_rfl) (by kernel_rfl) (by kernel_rfl) (fun _ _ _ h => h) (Or.inl ⟨by rfl, ?_⟩) (by assumption) ?_
  rotate_left
  · (intro w hSw; (try dsimp only at hSw); go_simp; first | done | with_reducible rfl)
  (try simp only [Act.put, List.setIfInBounds_toArray, List.set_cons_zero, List.set_cons_succ])
  refine takeH (i := 9) (v := ?_) rfl (by kernel_rfl) (by kernel_rfl) (by kernel_rfl) (fun _ _ _ h => h) (Or.inl ⟨by rfl, ?_⟩) (by assumption) ?_
  rotate_left
  · (intro w hSw; (try dsimp only at hSw); go_simp; first | done | with_reducible rfl)
  (try simp only [Act.put, List.setIfInBounds_toArray, List.set_cons_zero, List.set_cons_succ])
  refine takeH (i := 10) (v := ?_) rfl (by kernel_rfl) (by kernel_rfl) (by kernel_rfl) (fun _ _ _ h => h) (Or.inl ⟨by rfl, ?_⟩) (by assumption) ?_
  rotate_left
  · (intro w hSw; (try dsimp only at hSw); go_simp; first | done | with_reducible rfl)
  (try simp only [Act.put, List.setIfInBounds_toArray, List.set_cons_zero, List.set_cons_succ])
  refine takeH (i := 11) (v := ?_) rfl (by kernel_rfl) (by kernel_rfl) (by kernel_rfl) (fun _ _ _ h => h) (Or.inl ⟨by rfl, ?_⟩) (by assumption) ?_
  rotate_left
  · (intro w hSw; (try dsimp only at hSw); obtain ⟨c0, c1⟩ := HK.out w hSw; go_simp; first | done | with_reducible rfl)
  (try simp only [Act.put, List.setIfInBounds_toArray, List.set_cons_zero, List.set_cons_succ])
  refine wpAnyH_ready (rs := [12]) (by kernel_rfl) (by simp) ?_
  refine stepH rfl (fun K hK => ?_) AllReadyH.nil
  go_simp
  refine (HPS.out _ wa (HR4.out.below ha)).mono ?_
  rintro e wb ⟨rfl, hq⟩
  have hb := bnext ha hq
  go_wp2_with fail
  refine hK.out _ _ (hb) (fun _ => ?_)
  clear hK K
  (try simp only [Act.put, List.setIfInBounds_toArray, List.set_cons_zero, List.set_cons_succ])
  refine takeH (i := 13) (v := ?_) rfl (by kernel_rfl) (by kernel_rfl) (by kernel_rfl) (fun _ _ _ h => h) (Or.inl ⟨by rfl, ?_⟩) (by assumption) ?_
  rotate_left
  · (intro w hSw; (try dsimp only at hSw); go_simp; first | done | with_reducible rfl)
  (try simp only [Act.put, List.setIfInBounds_toArray, List.set_cons_zero, List.set_cons_succ])
  refine takeH (i := 14) (v := ?_) rfl (by kernel_rfl) (by kernel_rfl) (by kernel_rfl) (fun _ _ _ h => h) (Or.inl ⟨by rfl, ?_⟩) (by assumption) ?_
  rotate_left
  · (intro w hSw; (try dsimp only at hSw); go_simp; first | done | with_reducible rfl)
  (try simp only [Act.put, List.setIfInBounds_toArray, List.set_cons_zero, List.set_cons_succ])
  refine takeH (i := 15) (v := ?_) rfl (by kernel_rfl) (by kernel_rfl) (by kernel_rfl) (fun _ _ _ h => h) (Or.inl ⟨by rfl, ?_⟩) (by assumption) ?_
  rotate_left
  · (intro w hSw; (try dsimp only at hSw); go_simp; first | done | with_reducible rfl)
  (try simp only [Act.put, List.setIfInBounds_toArray, List.set_cons_zero, List.set_cons_succ])
  refine takeH (i := 16) (v := ?_) rfl (by kernel_rfl) (by kernel_rfl) (by kernel_rfl) (fun _ _ _ h => h) (Or.inl ⟨by rfl, ?_⟩) (by assumption) ?_
  rotate_left
  · (intro w hSw; (try dsimp only at hSw); obtain ⟨c0, c1⟩ := HK.out w hSw; go_simp; first | done | with_reducible rfl)
  (try simp only [Act.put, List.setIfInBounds_toArray, List.set_cons_zero, List.set_cons_succ])
  refine wpAnyH_ready (rs := [17]) (by kernel_rfl) (by simp) ?_
  refine stepH rfl (fun K hK => ?_) AllReadyH.nil
  go_simp
  refine (HPA.out _ wb (HR4.out.below hb)).mono ?_
  rintro e wc ⟨v5, rfl, hr5, hq⟩
  obtain ⟨a5, c5, hv5, _, _⟩ := hr5.shape
  rw [HL4.out] at hv5
  subst hv5
  have hc := bnext hb hq
  go_wp2_with fail
  refine hK.out _ _ (hc) (fun _ => ?_)
  clear hK K
  (try simp only [Act.put, List.setIfInBounds_toArray, List.set_cons_zero, List.set_cons_succ])
  refine takeH (i := 18) (v := ?_) rfl (by kernel_rfl) (by kernel_rfl) (by kernel_rfl) (fun _ _ _ h => h) (Or.inl ⟨by rfl, ?_⟩) (by assumption) ?_
  rotate_left
  · (intro w hSw; (try dsimp only at hSw); go_simp; first | done | with_reducible rfl)
  (try simp only [Act.put, List.setIfInBounds_toArray, List.set_cons_zero, List.set_cons_succ])
  refine takeH (i := 19) (v := ?_) rfl (by kernel_rfl) (by kernel_rfl) (by kernel_rfl) (fun _ _ _ h => h) (Or.inl ⟨by rfl, ?_⟩) (by assumption) ?_
  rotate_left
  · (intro w hSw; (try dsimp only at hSw); go_simp; first | done | with_reducible rfl)
  (try simp only [Act.put, List.setIfInBounds_toArray, List.set_cons_zero, List.set_cons_succ])
  refine takeH (i := 20) (v := ?_) rfl (by kernel_rfl) (by kernel_rfl) (by kernel_rfl) (fun _ _ _ h => h) (Or.inl ⟨by rfl, ?_⟩) (by assumption) ?_
  rotate_left
  · (intro w hSw; (try dsimp only at hSw); go_simp; first | done | with_reducible rfl)
  (try simp only [Act.put, List.setIfInBounds_toArray, List.set_cons_zero, List.set_cons_succ])
  refine takeH (i := 21) (v := ?_) rfl (by kernel_rfl) (by kernel_rfl) (by kernel_rfl) (fun _ _ _ h => h) (Or.inl ⟨by rfl, ?_⟩) (by assumption) ?_
  rotate_left
  · (intro w hSw; (try dsimp only at hSw); go_simp; first | done | with_reducible rfl)
  (try simp only [Act.put, List.setIfInBounds_toArray, List.set_cons_zero, List.set_cons_succ])
  refine takeH (i := 22) (v := ?_) rfl (by kernel_rfl) (by kernel_rfl) (by kernel_rfl) (fun _ _ _ h => h) (Or.inl ⟨by rfl, ?_⟩) (by assumption) ?_
  rotate_left
  · (intro w hSw; (try dsimp only at hSw); obtain ⟨c0, c1⟩ := HK.out w hSw; go_simp; first | done | with_reducible rfl)
  (try simp only [Act.put, List.setIfInBounds_toArray, List.set_cons_zero, List.set_cons_succ])
  refine wpAnyH_ready (rs := [23]) (by kernel_rfl) (by simp) ?_
  refine stepH rfl (fun K hK => ?_) AllReadyH.nil
  go_simp
  refine (HLV.out _ wc (HR4.out.below hc)).mono ?_
  rintro e wd ⟨v6, rfl, hr6, hq⟩
  obtain ⟨a6, c6, hv6, _, _⟩ := hr6.shape
  rw [HL5.out] at hv6
  subst hv6
  have hd := bnext hc hq
  go_wp2_with fail
  refine hK.out _ _ (hd) (fun _ => ?_)
  clear hK K
  (try simp only [Act.put, List.setIfInBounds_toArray, List.set_cons_zero, List.set_cons_succ])
  refine takeH (i := 24) (v := ?_) rfl (by kernel_rfl) (by kernel_rfl) (by kernel_rfl) (fun _ _ _ h => h) (Or.inl ⟨by rfl, ?_⟩) (by assumption) ?_
  rotate_left
  · (intro w hSw; (try dsimp only at hSw); go_simp; first | done | with_reducible rfl)
  (try simp only [Act.put, List.setIfInBounds_toArray, List.set_cons_zero, List.set_cons_succ])
  refine takeH (i := 25) (v := ?_) rfl (by kernel_rfl) (by kernel_rfl) (by kernel_rfl) (fun _ _ _ h => h) (Or.inl ⟨by rfl, ?_⟩) (by assumption) ?_
  rotate_left
  · (intro w hSw; (try dsimp only at hSw); go_simp; first | done | with_reducible rfl)
  (try simp only [Act.put, List.setIfInBounds_toArray, List.set_cons_zero, List.set_cons_succ])
  refine takeH (i := 26) (v := ?_) rfl (by kernel_rfl) (by kernel_rfl) (by kernel_rfl) (fun _ _ _ h => h) (Or.inl ⟨by rfl, ?_⟩) (by assumption) ?_
  rotate_left
  · (intro w hSw; (try dsimp only at hSw); go_simp; first | done | with_reducible rfl)
  (try simp only [Act.put, List.setIfInBounds_toArray, List.set_cons_zero, List.set_cons_succ])
  refine takeH (i := 27) (v := ?_) rfl (by kernel_rfl) (by kernel_rfl) (by kernel_rfl) (fun _ _ _ h => h) (Or.inl ⟨by rfl, ?_⟩) (by assumption) ?_
  rotate_left
  · (intro w hSw; (try dsimp only at hSw); go_simp; first | done | with_reducible rfl)
  (try simp only [Act.put, List.setIfInBounds_toArray, List.set_cons_zero, List.set_cons_succ])
  refine takeH (i := 28) (v := ?_) rfl (by kernel_rfl) (by kernel_rfl) (by kernel_rfl) (fun _ _ _ h => h) (Or.inl ⟨by rfl, ?_⟩) (by assumption) ?_
  rotate_left
  · (intro w hSw; (try dsimp only at hSw); obtain ⟨c0, c1⟩ := HK.out w hSw; go_simp; first | done | with_reducible rfl)
  (try simp only [Act.put, List.setIfInBounds_toArray, List.set_cons_zero, List.set_cons_succ])
  refine takeH (i := 29) (v := ?_) rfl (by kernel_rfl) (by kernel_rfl) (by kernel_rfl) (fun _ _ _ h => h) (Or.inl ⟨by rfl, ?_⟩) (by assumption) ?_
  rotate_left
  · (intro w hSw; (try dsimp only at hSw); go_simp; first | done | with_reducible rfl)
  (try simp only [Act.put, List.setIfInBounds_toArray, List.set_cons_zero, List.set_cons_succ])
  refine takeH (i := 30) (v := ?_) rfl (by kernel_rfl) (by kernel_rfl) (by kernel_rfl) (fun _ _ _ h => h) (Or.inl ⟨by rfl, ?_⟩) (by assumption) ?_
  rotate_left
  · (intro w hSw; (try dsimp only at hSw); go_simp; first | done | with_reducible rfl)
  (try simp only [Act.put, List.setIfInBounds_toArray, List.set_cons_zero, List.set_cons_succ])
  refine wpAnyH_ready (rs := [31]) (by kernel_rfl) (by simp) ?_
  refine stepH rfl (fun K hK => ?_) AllReadyH.nil
  go_simp
  refine (HCO.out _ wd (bnext HB4.out hd) (HR4.out.below hd)).mono ?_
  rintro e we ⟨v7, rfl, hr7, hq⟩
  obtain ⟨nv7, ev7, hv7, hn7, _⟩ := hr7
  obtain ⟨a7, c7, hs7, _, _⟩ := hn7.shape
  rw [HL2.out] at hs7
  subst hs7
  subst hv7
  have he := bnext hd hq
  go_wp2_with fail
  refine hK.out _ _ (he) (fun _ => ?_)
  clear hK K
  (try simp only [Act.put, List.setIfInBounds_toArray, List.set_cons_zero, List.set_cons_succ])
  refine takeH (i := 32) (v := ?_) rfl (by kernel_rfl) (by kernel_rfl) (by kernel_rfl) (fun _ _ _ h => h) (Or.inl ⟨by rfl, ?_⟩) (by assumption) ?_
  rotate_left
  · (intro w hSw; (try dsimp only at hSw); go_simp; first | done | with_reducible rfl)
  (try simp only [Act.put, List.setIfInBounds_toArray, List.set_cons_zero, List.set_cons_succ])
  refine takeH (i := 33) (v := ?_) rfl (by kernel_rfl) (by kernel_rfl) (by kernel_rfl) (fun _ _ _ h => h) (Or.inl ⟨by rfl, ?_⟩) (by assumption) ?_
  rotate_left
  · (intro w hSw; (try dsimp only at hSw); go_simp; first | done | with_reducible rfl)
  (try simp only [Act.put, List.setIfInBounds_toArray, List.set_cons_zero, List.set_cons_succ])
  refine takeH (i := 34) (v := ?_) rfl (by kernel_rfl) (by kernel_rfl) (by kernel_rfl) (fun _ _ _ h => h) (Or.inl ⟨by rfl, ?_⟩) (by assumption) ?_
  rotate_left
  · (intro w hSw; (try dsimp only at hSw); go_simp; first | done | with_reducible rfl)
  (try simp only [Act.put, List.setIfInBounds_toArray, List.set_cons_zero, List.set_cons_succ])
  refine takeH (i := 35) (v := ?_) rfl (by kernel_rfl) (by kernel_rfl) (by kernel_rfl) (fun _ _ _ h => h) (Or.inl ⟨by rfl, ?_⟩) (by assumption) ?_
  rotate_left
  · (intro w hSw; (try dsimp only at hSw); go_simp; first | done | with_reducible rfl)
  (try simp only [Act.put, List.setIfInBounds_toArray, List.set_cons_zero, List.set_cons_succ])
  refine takeH (i := 36) (v := ?_) rfl (by kernel_rfl) (by kernel_rfl) (by kernel_rfl) (fun _ _ _ h => h) (Or.inl ⟨by rfl, ?_⟩) (by assumption) ?_
  rotate_left
  · (intro w hSw; (try dsimp only at hSw); go_simp; first | done | with_reducible rfl)
  (try simp only [Act.put, List.setIfInBounds_toArray, List.set_cons_zero, List.set_cons_succ])
  refine takeH (i := 37) (v := ?_) rfl (by kernel_rfl) (by kernel_rfl) (by kernel_rfl) (fun _ _ _ h => h) (Or.inl ⟨by rfl, ?_⟩) (by assumption) ?_
  rotate_left
  · (intro w hSw; (try dsimp only at hSw); obtain ⟨c0, c1⟩ := HK.out w hSw; go_simp; first | done | with_reducible rfl)
  (try simp only [Act.put, List.setIfInBounds_toArray, List.set_cons_zero, List.set_cons_succ])
  refine takeH (i := 38) (v := ?_) rfl (by kernel_rfl) (by kernel_rfl) (by kernel_rfl) (fun _ _ _ h => h) (Or.inl ⟨by rfl, ?_⟩) (by assumption) ?_
  rotate_left
  · (intro w hSw; (try dsimp only at hSw); go_simp; first | done | with_reducible rfl)
  (try simp only [Act.put, List.setIfInBounds_toArray, List.set_cons_zero, List.set_cons_succ])
  refine takeH (i := 39) (v := ?_) rfl (by kernel_rfl) (by kernel_rfl) (by kernel_rfl) (fun _ _ _ h => h) (Or.inl ⟨by rfl, ?_⟩) (by assumption) ?_
  rotate_left
  · (intro w hSw; (try dsimp only at hSw); go_simp; first | done | with_reducible rfl)
  (try simp only [Act.put, List.setIfInBounds_toArray, List.set_cons_zero, List.set_cons_succ])
  refine wpAnyH_ready (rs := [40]) (by kernel_rfl) (by simp) ?_
  refine stepH rfl (fun K hK => ?_) AllReadyH.nil
  go_simp
  refine (HPR.out _ we (bnext HB4.out he) (HR4.out.below he)).mono ?_
  rintro e wf ⟨v8, rfl, hr8, hq⟩
  obtain ⟨nv8, ev8, hv8, hn8, _⟩ := hr8
  obtain ⟨a8, c8, hs8, _, _⟩ := hn8.shape
  rw [HL3.out] at hs8
  subst hs8
  subst hv8
  have hf := bnext he hq
  go_wp2_with fail
  refine hK.out _ _ (hf) (fun _ => ?_)
  clear hK K
  (try simp only [Act.put, List.setIfInBounds_toArray, List.set_cons_zero, List.set_cons_succ])
  refine takeH (i := 41) (v := ?_) rfl (by kernel_rfl) (by kernel_rfl) (by kernel_rfl) (fun _ _ _ h => h) (Or.inl ⟨by rfl, ?_⟩) (by assumption) ?_
  rotate_left
  · (intro w hSw; (try dsimp only at hSw); go_simp; first | done | with_reducible rfl)
  (try simp only [Act.put, List.setIfInBounds_toArray, List.set_cons_zero, List.set_cons_succ])
  refine takeH (i := 42) (v := ?_) rfl (by kernel_rfl) (by kernel_rfl) (by kernel_rfl) (fun _ _ _ h => h) (Or.inl ⟨by rfl, ?_⟩) (by assumption) ?_
  rotate_left
  · (intro w hSw; (try dsimp only at hSw); go_simp; first | done | with_reducible rfl)
  (try simp only [Act.put, List.setIfInBounds_toArray, List.set_cons_zero, List.set_cons_succ])
  refine takeH (i := 43) (v := ?_) rfl (by kernel_rfl) (by kernel_rfl) (by kernel_rfl) (fun _ _ _ h => h) (Or.inl ⟨by rfl, ?_⟩) (by assumption) ?_
  rotate_left
  · (intro w hSw; (try dsimp only at hSw); go_simp; first | done | with_reducible rfl)
  (try simp only [Act.put, List.setIfInBounds_toArray, List.set_cons_zero, List.set_cons_succ])
  refine takeH (i := 44) (v := ?_) rfl (by kernel_rfl) (by kernel_rfl) (by kernel_rfl) (fun _ _ _ h => h) (Or.inl ⟨by rfl, ?_⟩) (by assumption) ?_
  rotate_left
  · (intro w hSw; (try dsimp only at hSw); go_simp; first | done | with_reducible rfl)
  (try simp only [Act.put, List.setIfInBounds_toArray, List.set_cons_zero, List.set_cons_succ])
  refine takeH (i := 45) (v := ?_) rfl (by kernel_rfl) (by kernel_rfl) (by kernel_rfl) (fun _ _ _ h => h) (Or.inl ⟨by rfl, ?_⟩) (by assumption) ?_
  rotate_left
  · (intro w hSw; (try dsimp only at hSw); go_simp; first | done | with_reducible rfl)
  (try simp only [Act.put, List.setIfInBounds_toArray, List.set_cons_zero, List.set_cons_succ])
  refine takeH (i := 46) (v := ?_) rfl (by kernel_rfl) (by kernel_rfl) (by kernel_rfl) (fun _ _ _ h => h) (Or.inl ⟨by rfl, ?_⟩) (by assumption) ?_
  rotate_left
  · (intro w hSw; (try dsimp only at hSw); obtain ⟨c0, c1⟩ := HK.out w hSw; go_simp; first | done | with_reducible rfl)
  (try simp only [Act.put, List.setIfInBounds_toArray, List.set_cons_zero, List.set_cons_succ])
  refine takeH (i := 47) (v := ?_) rfl (by kernel_rfl) (by kernel_rfl) (by kernel_rfl) (fun _ _ _ h => h) (Or.inl ⟨by rfl, ?_⟩) (by assumption) ?_
  rotate_left
  · (intro w hSw; (try dsimp only at hSw); obtain ⟨c0, c1⟩ := HK.out w hSw; go_simp; first | done | with_reducible rfl)
  (try simp only [Act.put, List.setIfInBounds_toArray, List.set_cons_zero, List.set_cons_succ])
  refine wpAnyH_ready (rs := [48]) (by kernel_rfl) (by simp) ?_
  refine stepH rfl (fun K hK => ?_) AllReadyH.nil
  go_simp
  refine (HEQ.out _ wf (HR4.out.below hf)).mono ?_
  rintro e wg ⟨rfl, hq⟩
  have hg := bnext hf hq
  go_wp2_with fail
  refine hK.out _ _ (hg) (fun _ => ?_)
  clear hK K
  (try simp only [Act.put, List.setIfInBounds_toArray, List.set_cons_zero, List.set_cons_succ])
  refine takeH (i := 49) (v := ?_) rfl (by kernel_rfl) (by kernel_rfl) (by kernel_rfl) (fun _ _ _ h => h) (Or.inl ⟨by rfl, ?_⟩) (by assumption) ?_
  rotate_left
  · (intro w hSw; (try dsimp only at hSw); go_simp; first | done | with_reducible rfl)
  (try simp only [Act.put, List.setIfInBounds_toArray, List.set_cons_zero, List.set_cons_succ])
  refine takeH (i := 50) (v := ?_) rfl (by kernel_rfl) (by kernel_rfl) (by kernel_rfl) (fun _ _ _ h => h) (Or.inl ⟨by rfl, ?_⟩) (by assumption) ?_
  rotate_left
  · (intro w hSw; (try dsimp only at hSw); go_simp; first | done | with_reducible rfl)
  (try simp only [Act.put, List.setIfInBounds_toArray, List.set_cons_zero])
  refine wpAnyH_done (by kernel_rfl) ?_ _
  have HEND := Lib.hid (bnext HB.out (bnext HB4.out hg))
  clear ha hb hc hd he hf hg
  go_wp2
  go_ret
  exact ⟨rfl, HEND.out⟩

end Go.Proofs.YtkgkhofkhjgnbaaGreat
