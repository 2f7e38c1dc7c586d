/-
  The call of the laws' awake: it returns true. No conditions.
-/
import Derived.Test.YtejafpbobgkibaaGreatISpan
import Derived.Test.YtejafpbobgkibaaGreatIMath
import Derived.Test.YtejafpbobgkibaaGreatICmp
namespace Go.Proofs.YtejafpbobgkibaaGreat
open Go.RowKit Go.Joins Go.Shelf
open JM (Chg)
open CM (Fp)
open MM (Mem Ent Sm Tri)

def Gi : List Mem := [(1, 1)]
def Li : List Chg := [(1, 9, 1, 0, 0, 0, 0)]
def Fi1 : Fp := (201, 1, Li)
def Fi2 : Fp := (202, 1, Li)
theorem gen_i : MM.errG 1 0 0 Gi = 0 := by decide
theorem ok_i : CM.Ok [Fi1, Fi2] := by show CM.errL (0, 0) [Fi1, Fi2] = 0; decide
theorem ok_i1 : CM.Ok [Fi1] := by show CM.errL (0, 0) [Fi1] = 0; decide
theorem ok_i0 : CM.Ok [] := rfl
theorem cons_i0 : CM.cons [Fi1, Fi2] [] = true := rfl
theorem cons_i1 : (CM.cons [Fi1] [] && CM.cons [Fi1, Fi2] [Fi1]) = true := by decide
theorem cons_i2 : CM.cons [Fi1, Fi2] [Fi1, Fi2] = true := by decide
theorem all_i : (IM.all [] [Fi1, Fi2]).length = 4 := by
  have h := IM.all_len ok_i0 ok_i cons_i0
  have e1 : CM.ct [Fi1, Fi2] 201 = 1 := by decide
  have e2 : CM.ct [Fi1, Fi2] 202 = 1 := by decide
  have e3 : CM.ct [Fi1, Fi2] 203 = 0 := by decide
  rw [e1, e2, e3] at h
  simp only [CM.ct_nil] at h
  omega
theorem iv_i : (IM.iv [] [Fi1, Fi2]).length = 4 := by have := all_i; unfold IM.all at this; rwa [List.length_map] at this
theorem all_i2 : (IM.all [Fi1, Fi2] [Fi1, Fi2]).length = 1 := by
  have h := IM.all_len ok_i ok_i cons_i2
  rw [Int.sub_self, Int.sub_self, Int.sub_self] at h
  omega
theorem views_i : (IM.views Gi 1 0 0 [Fi1, Fi2] [Fi1, Fi2]).length = 1 := by unfold IM.views; rw [List.length_map]; exact all_i2
/-- A member of a view of the interval is 1 or 9. -/
theorem summ_i {fs : List Fp} (h : ∀ x ∈ fs, JM.errP x.1 x.2.1 x.2.2 = 0) (hs : ∀ x ∈ fs, x = Fi1 ∨ x = Fi2) (x : Int) :
    x ∈ (MM.mems (MM.summ Gi 1 0 0 fs)).map (·.1) ↔ x = 1 ∨ (x = 9 ∧ fs ≠ []) := by
  obtain ⟨g1, g2, _⟩ := MM.errG_zero gen_i
  have sp := MM.sp_summ (c := 0) (f := 0) g1 g2 h
  have eJ : ∀ f ∈ fs, (MM.ofF f).J = [9] ∧ (MM.ofF f).R = [] := fun f hf => by rcases hs f hf with rfl | rfl <;> exact ⟨rfl, rfl⟩
  have hJ : ∀ y, y ∈ (MM.summ Gi 1 0 0 fs).J ↔ y = 1 ∨ (y = 9 ∧ fs ≠ []) := fun y => by
    rw [sp.j]
    unfold MM.allT
    constructor
    · rintro ⟨u, hu, hy⟩
      rcases List.mem_cons.1 hu with rfl | hu
      · left
        have h0 : y ∈ [(1 : Int)] := hy
        simpa using h0
      · obtain ⟨f, hf, rfl⟩ := List.mem_map.1 hu
        rw [(eJ f hf).1] at hy
        exact .inr ⟨by simpa using hy, fun e => by rw [e] at hf; cases hf⟩
    · rintro (rfl | ⟨rfl, hne⟩)
      · exact ⟨_, List.mem_cons_self, by show (1 : Int) ∈ [(1 : Int)]; simp⟩
      · cases fs with
        | nil => exact absurd rfl hne
        | cons f r => exact ⟨MM.ofF f, by simp, by rw [(eJ f (by simp)).1]; simp⟩
  have hR : ∀ y, y ∉ (MM.summ Gi 1 0 0 fs).R := fun y hy => by
    obtain ⟨u, hu, hy⟩ := (sp.r y).1 hy
    unfold MM.allT at hu
    rcases List.mem_cons.1 hu with rfl | hu
    · have h0 : y ∈ ([] : List Int) := hy
      cases h0
    · obtain ⟨f, hf, rfl⟩ := List.mem_map.1 hu
      rw [(eJ f hf).2] at hy; cases hy
  rw [← hJ]
  unfold MM.mems
  rw [List.map_map]
  constructor
  · intro hx
    obtain ⟨y, hy, rfl⟩ := List.mem_map.1 hx
    exact (List.mem_filter.1 hy).1
  · intro hx
    exact List.mem_map.2 ⟨x, List.mem_filter.2 ⟨hx, by simpa using hR x⟩, rfl⟩
theorem span_i : IM.span Gi 1 0 0 [] [Fi1, Fi2] = [1, 9] := by
  refine MM.srtI_ext (IM.compact_spec _).1 (by show List.Pairwise _ _; simp [MM.kI]) fun x => ?_
  rw [show x ∈ IM.span Gi 1 0 0 [] [Fi1, Fi2] ↔ x ∈ IM.servers (IM.views Gi 1 0 0 [] [Fi1, Fi2]) from (IM.compact_spec _).2 x]
  have hm : ∀ f, f ∈ IM.all [] [Fi1, Fi2] → ∀ y ∈ f, y = Fi1 ∨ y = Fi2 := fun f hf y hy => by
    have := (IM.all_within ok_i0 ok_i f hf).2.2
    simpa using CM.cons_iff.1 this y hy
  unfold IM.servers IM.views
  rw [List.mem_flatMap]
  constructor
  · rintro ⟨v, hv, hx⟩
    obtain ⟨f, hf, rfl⟩ := List.mem_map.1 hv
    rcases (summ_i (IM.all_within ok_i0 ok_i f hf).1.all (hm f hf) x).1 hx with rfl | ⟨rfl, _⟩ <;> simp
  · intro hx
    have hf : [Fi1, Fi2] ∈ IM.all [] [Fi1, Fi2] := (IM.all_iff ok_i0 ok_i _ ok_i).2 ⟨rfl, cons_i2⟩
    refine ⟨_, List.mem_map.2 ⟨_, hf, rfl⟩, (summ_i ok_i.all (hm _ hf) x).2 ?_⟩
    simp only [List.mem_cons, List.mem_nil_iff, or_false] at hx
    rcases hx with rfl | rfl
    · exact .inl rfl
    · exact .inr ⟨rfl, by simp⟩

theorem awake9_blocks (w : World) :
    ∃ w4, (((w.alloc (.cells #[.int .i64 1, .int .i64 9, .int .i64 1, .int .i64 0, .int .i64 0, .int .i64 0, .int .i64 0] 67)).alloc (.cells #[.int .i64 201, .int .i64 1, .slice (some ⟨w.heap.size, 0, none⟩) 1 1, .int .i64 202, .int .i64 1, .slice (some ⟨w.heap.size, 0, none⟩) 1 1] 70)).alloc
        (.cells #[.int .i64 1, .int .i64 1] 63)).alloc (.cells #[.slice (some ⟨w.heap.size + 1 + 1, 0, none⟩) 1 1, .int .i64 1, .int .i64 0, .int .i64 0] 35) = w4 ∧ Below w.heap.size w w4 ∧
      RdM w4 (.slice (some ⟨w.heap.size + 1 + 1, 0, none⟩) 1 1) Gi ∧ RdF w4 (.slice (some ⟨w.heap.size + 1, 0, none⟩) 2 2) [Fi1, Fi2] ∧ RdF w4 (.slice (some ⟨w.heap.size + 1, 0, none⟩) 1 2) [Fi1] ∧
      w4.heap[w.heap.size + 1 + 1 + 1]? = some (.cells #[.slice (some ⟨w.heap.size + 1 + 1, 0, none⟩) 1 1, .int .i64 1, .int .i64 0, .int .i64 0] 35 (0, 0)) := by
  have b1 := below_fresh w (.cells #[.int .i64 1, .int .i64 9, .int .i64 1, .int .i64 0, .int .i64 0, .int .i64 0, .int .i64 0] 67)
  have z1 := World.size_alloc w (.cells #[.int .i64 1, .int .i64 9, .int .i64 1, .int .i64 0, .int .i64 0, .int .i64 0, .int .i64 0] 67)
  have h1 : RdC (w.alloc (.cells #[.int .i64 1, .int .i64 9, .int .i64 1, .int .i64 0, .int .i64 0, .int .i64 0, .int .i64 0] 67)) (.slice (some ⟨w.heap.size, 0, none⟩) 1 1) Li := (ownG_fresh hlC 67 w Li (by simp [maxLen, Li])).rd
  generalize w.alloc (.cells #[.int .i64 1, .int .i64 9, .int .i64 1, .int .i64 0, .int .i64 0, .int .i64 0, .int .i64 0] 67) = w1 at *
  have b2 := below_fresh w1 (.cells #[.int .i64 201, .int .i64 1, .slice (some ⟨w.heap.size, 0, none⟩) 1 1, .int .i64 202, .int .i64 1, .slice (some ⟨w.heap.size, 0, none⟩) 1 1] 70)
  have z2 := World.size_alloc w1 (.cells #[.int .i64 201, .int .i64 1, .slice (some ⟨w.heap.size, 0, none⟩) 1 1, .int .i64 202, .int .i64 1, .slice (some ⟨w.heap.size, 0, none⟩) 1 1] 70)
  have h2 : RdQ (w1.alloc (.cells #[.int .i64 201, .int .i64 1, .slice (some ⟨w.heap.size, 0, none⟩) 1 1, .int .i64 202, .int .i64 1, .slice (some ⟨w.heap.size, 0, none⟩) 1 1] 70)) (.slice (some ⟨w1.heap.size, 0, none⟩) 2 2) [(201, 1, some ⟨w.heap.size, 0, none⟩, 1, 1), (202, 1, some ⟨w.heap.size, 0, none⟩, 1, 1)] :=
    (ownG_fresh hlQ 70 w1 [(201, 1, some ⟨w.heap.size, 0, none⟩, 1, 1), (202, 1, some ⟨w.heap.size, 0, none⟩, 1, 1)] (by simp [maxLen])).rd
  generalize w1.alloc (.cells #[.int .i64 201, .int .i64 1, .slice (some ⟨w.heap.size, 0, none⟩) 1 1, .int .i64 202, .int .i64 1, .slice (some ⟨w.heap.size, 0, none⟩) 1 1] 70) = w2 at *
  have b3 := below_fresh w2 (.cells #[.int .i64 1, .int .i64 1] 63)
  have z3 := World.size_alloc w2 (.cells #[.int .i64 1, .int .i64 1] 63)
  have h3 : RdM (w2.alloc (.cells #[.int .i64 1, .int .i64 1] 63)) (.slice (some ⟨w2.heap.size, 0, none⟩) 1 1) Gi := (ownG_fresh hlM 63 w2 Gi (by simp [maxLen, Gi])).rd
  generalize w2.alloc (.cells #[.int .i64 1, .int .i64 1] 63) = w3 at *
  have hz2 : w2.heap.size = w.heap.size + 1 + 1 := by omega
  have hz3 : w3.heap.size = w.heap.size + 1 + 1 + 1 := by omega
  rw [hz2] at h3
  rw [z1] at h2
  have b4 := below_fresh w3 (.cells #[.slice (some ⟨w.heap.size + 1 + 1, 0, none⟩) 1 1, .int .i64 1, .int .i64 0, .int .i64 0] 35)
  have h4 := heap_alloc_new w3 (.cells #[.slice (some ⟨w.heap.size + 1 + 1, 0, none⟩) 1 1, .int .i64 1, .int .i64 0, .int .i64 0] 35)
  rw [hz3] at h4
  have hQ := (h2.below b3).below b4
  have hC := ((h1.below b2).below b3).below b4
  exact ⟨_, rfl, bnext (bnext (bnext b1 b2) b3) b4, h3.below b4, ⟨_, hQ, ⟨rfl, rfl, hC⟩, ⟨rfl, rfl, hC⟩, trivial⟩, ⟨_, hQ.takeN 1 (by simp), ⟨rfl, rfl, hC⟩, trivial⟩, h4⟩

set_option maxRecDepth 100000 in
set_option maxHeartbeats 4000000 in
theorem cAwake9 (w : World) : Calls Tryz.prog 10 #[] w fun e w' => e = .returned (.bool true) ∧ Below w.heap.size w w' := by
  obtain ⟨w4, hw4, hB, hM, hF, hF1, hG⟩ := awake9_blocks w
  have HSP := Lib.hid (by
    have := cSpan _ (.slice none 0 0) _ 1 0 0 Gi [] [Fi1, Fi2] w4 hM (RdF.nil w4) hF ok_i0 ok_i gen_i (by decide)
    rw [span_i] at this
    exact this)
  have HCN := Lib.hid (fun w' (hb : Below w4.heap.size w4 w') => by
    have := cCount (.slice none 0 0) _ [] [Fi1, Fi2] w' (RdF.nil w') (hF.below hb) ok_i0 ok_i
    rw [iv_i] at this
    exact this)
  have HAL := Lib.hid (fun w' (hb : Below w4.heap.size w4 w') => cAll (.slice none 0 0) _ [] [Fi1, Fi2] w' (RdF.nil w') (hF.below hb) ok_i0 ok_i)
  have HWI := Lib.hid (fun w' (hb : Below w4.heap.size w4 w') => by
    have := cWithin (.slice none 0 0) _ _ [] [Fi1, Fi2] [Fi1] w' (RdF.nil w') (hF.below hb) (hF1.below hb) ok_i0 ok_i ok_i1
    rw [cons_i1] at this
    exact this)
  have HVW := Lib.hid (fun w' (hb : Below w4.heap.size w4 w') => cViews _ _ _ 1 0 0 Gi [Fi1, Fi2] [Fi1, Fi2] w' (hM.below hb) (hF.below hb) (hF.below hb) ok_i ok_i gen_i (by decide))
  have HB := Lib.hid hB
  have HG := Lib.hid hG
  have HW := Lib.hid hw4
  obtain ⟨⟨q0, q1, q2, q3⟩, _⟩ := row4_at hG
  clear hB hM hF hF1 hG hw4
  go_enter Tryz.func10, Tryz.ntmps10
  go_upto_region 4 with fail
  rw [HW.out]
  go_wp2_with fail
  refine HSP.out.mono ?_
  rintro e w5 ⟨v5, rfl, hr5, hb5⟩
  obtain ⟨a5, c5, hv5, _, _⟩ := hr5.shape
  have hv5 : v5 = .slice a5 2 c5 := hv5
  subst hv5
  obtain ⟨b1, o1, hi1, hb1, c1⟩ := atI hr5 1 9 rfl
  have HI1 := Lib.hid (show ∀ w0, (Instr.indexAt 44 (.slice a5 2 c5) (.int .i64 1)).run Tryz.prog w0 = .ok (.pointer (some ⟨b1, o1, none⟩)) w0 from hi1)
  have HR5 := Lib.hid (show ∀ w', Below w5.heap.size w5 w' → w'.cell? ⟨b1, o1, none⟩ = some (.int .i64 9) from fun w' hb => below_cell hb c1)
  have HB5 := Lib.hid hb5
  clear hr5 hb5 hi1 c1 q0 q1 q2 q3 HSP HW
  go_wp2_with fail
  refine (HCN.out w5 HB5.out).mono ?_
  rintro e w6 ⟨rfl, hb6⟩
  have HB6 := Lib.hid (bnext HB5.out hb6)
  have HB56 := Lib.hid hb6
  clear hb6 HCN
  go_wp2_with fail
  refine (HAL.out w6 HB6.out).mono ?_
  rintro e w7 ⟨v7, rfl, hr7, hb7⟩
  obtain ⟨a7, c7, hv7, _, _⟩ := hr7.rd.shape
  rw [all_i] at hv7
  subst hv7
  have HB7 := Lib.hid (bnext HB6.out hb7)
  have HB57 := Lib.hid (bnext HB56.out hb7)
  clear hr7 hb7 HAL HB56 HB6
  go_wp2_with fail
  refine (HWI.out w7 HB7.out).mono ?_
  rintro e w8 ⟨rfl, hb8⟩
  have HB8 := Lib.hid (bnext HB7.out hb8)
  have c1 := HR5.out w8 (bnext HB57.out hb8)
  have hi1 := HI1.out
  obtain ⟨⟨q0, q1, q2, q3⟩, _⟩ := row4_at (below_block HG.out HB8.out)
  clear hb8 HWI HB7 HB57
  go_wp2_with fail
  refine (HVW.out w8 HB8.out).mono ?_
  rintro e w9 ⟨v9, rfl, hr9, hb9⟩
  obtain ⟨a9, c9, hv9, _, _⟩ := hr9.shape
  rw [views_i] at hv9
  subst hv9
  have HEND := Lib.hid (bnext HB.out (bnext HB8.out hb9))
  clear hr9 hb9 HVW c1 hi1 q0 q1 q2 q3
  go_wp2
  go_ret
  exact ⟨rfl, HEND.out⟩

end Go.Proofs.YtejafpbobgkibaaGreat
