/-
  The call of the laws' awake: it returns true. No conditions.
  The laws IntervalAll, IntervalMembers: each returns true. Conditions: what came in reads.
  The law IntervalMembers: it returns true. Conditions: the list of numbers reads.
  The law IntervalCount: it returns true. Conditions: the list of numbers reads.
  The law IntervalClosed: it returns true. Conditions: the list of numbers reads.
-/
import Derived.Test.YthfpafnljnnndaaGreatSI2
import Derived.Test.YthfpafnljnnndaaGreatSI3
import Derived.Test.YthfpafnljnnndaaGreatSI4
namespace Go.Proofs.YthfpafnljnnndaaGreat
open Go.RowKit Go.Joins Go.Shelf
open JM (Chg)
open CM (Fp)
open MM (Mem Ent Sm Tri)

def Gi : List Mem := [(1, 1)]
def Li : List Chg := [(1, 9, 1, 0, 0, 0, 0)]
def Fi1 : Fp := (201, 1, Li)
def Fi2 : Fp := (202, 1, Li)
theorem gen_i : MM.errG 1 0 0 Gi = 0 := by decide
theorem ok_i : CM.Ok [Fi1, Fi2] := by show CM.errL (0, 0) [Fi1, Fi2] = 0; decide
theorem ok_i1 : CM.Ok [Fi1] := by show CM.errL (0, 0) [Fi1] = 0; decide
theorem ok_i0 : CM.Ok [] := rfl
theorem cons_i0 : CM.cons [Fi1, Fi2] [] = true := rfl
theorem cons_i1 : (CM.cons [Fi1] [] && CM.cons [Fi1, Fi2] [Fi1]) = true := by decide
theorem cons_i2 : CM.cons [Fi1, Fi2] [Fi1, Fi2] = true := by decide
theorem all_i : (IM.all [] [Fi1, Fi2]).length = 4 := by
  have h := IM.all_len ok_i0 ok_i cons_i0
  have e1 : CM.ct [Fi1, Fi2] 201 = 1 := by decide
  have e2 : CM.ct [Fi1, Fi2] 202 = 1 := by decide
  have e3 : CM.ct [Fi1, Fi2] 203 = 0 := by decide
  rw [e1, e2, e3] at h
  simp only [CM.ct_nil] at h
  omega
theorem iv_i : (IM.iv [] [Fi1, Fi2]).length = 4 := by have := all_i; unfold IM.all at this; rwa [List.length_map] at this
theorem all_i2 : (IM.all [Fi1, Fi2] [Fi1, Fi2]).length = 1 := by
  have h := IM.all_len ok_i ok_i cons_i2
  rw [Int.sub_self, Int.sub_self, Int.sub_self] at h
  omega
theorem views_i : (IM.views Gi 1 0 0 [Fi1, Fi2] [Fi1, Fi2]).length = 1 := by unfold IM.views; rw [List.length_map]; exact all_i2
/-- A member of a view of the interval is 1 or 9. -/
theorem summ_i {fs : List Fp} (h : ∀ x ∈ fs, JM.errP x.1 x.2.1 x.2.2 = 0) (hs : ∀ x ∈ fs, x = Fi1 ∨ x = Fi2) (x : Int) :
    x ∈ (MM.mems (MM.summ Gi 1 0 0 fs)).map (·.1) ↔ x = 1 ∨ (x = 9 ∧ fs ≠ []) := by
  obtain ⟨g1, g2, _⟩ := MM.errG_zero gen_i
  have sp := MM.sp_summ (c := 0) (f := 0) g1 g2 h
  have eJ : ∀ f ∈ fs, (MM.ofF f).J = [9] ∧ (MM.ofF f).R = [] := fun f hf => by rcases hs f hf with rfl | rfl <;> exact ⟨rfl, rfl⟩
  have hJ : ∀ y, y ∈ (MM.summ Gi 1 0 0 fs).J ↔ y = 1 ∨ (y = 9 ∧ fs ≠ []) := fun y => by
    rw [sp.j]
    unfold MM.allT
    constructor
    · rintro ⟨u, hu, hy⟩
      rcases List.mem_cons.1 hu with rfl | hu
      · left
        have h0 : y ∈ [(1 : Int)] := hy
        simpa using h0
      · obtain ⟨f, hf, rfl⟩ := List.mem_map.1 hu
        rw [(eJ f hf).1] at hy
        exact .inr ⟨by simpa using hy, fun e => by rw [e] at hf; cases hf⟩
    · rintro (rfl | ⟨rfl, hne⟩)
      · exact ⟨_, List.mem_cons_self, by show (1 : Int) ∈ [(1 : Int)]; simp⟩
      · cases fs with
        | nil => exact absurd rfl hne
        | cons f r => exact ⟨MM.ofF f, by simp, by rw [(eJ f (by simp)).1]; simp⟩
  have hR : ∀ y, y ∉ (MM.summ Gi 1 0 0 fs).R := fun y hy => by
    obtain ⟨u, hu, hy⟩ := (sp.r y).1 hy
    unfold MM.allT at hu
    rcases List.mem_cons.1 hu with rfl | hu
    · have h0 : y ∈ ([] : List Int) := hy
      cases h0
    · obtain ⟨f, hf, rfl⟩ := List.mem_map.1 hu
      rw [(eJ f hf).2] at hy; cases hy
  rw [← hJ]
  unfold MM.mems
  rw [List.map_map]
  constructor
  · intro hx
    obtain ⟨y, hy, rfl⟩ := List.mem_map.1 hx
    exact (List.mem_filter.1 hy).1
  · intro hx
    exact List.mem_map.2 ⟨x, List.mem_filter.2 ⟨hx, by simpa using hR x⟩, rfl⟩
theorem span_i : IM.span Gi 1 0 0 [] [Fi1, Fi2] = [1, 9] := by
  refine MM.srtI_ext (IM.compact_spec _).1 (by show List.Pairwise _ _; simp [MM.kI]) fun x => ?_
  rw [show x ∈ IM.span Gi 1 0 0 [] [Fi1, Fi2] ↔ x ∈ IM.servers (IM.views Gi 1 0 0 [] [Fi1, Fi2]) from (IM.compact_spec _).2 x]
  have hm : ∀ f, f ∈ IM.all [] [Fi1, Fi2] → ∀ y ∈ f, y = Fi1 ∨ y = Fi2 := fun f hf y hy => by
    have := (IM.all_within ok_i0 ok_i f hf).2.2
    simpa using CM.cons_iff.1 this y hy
  unfold IM.servers IM.views
  rw [List.mem_flatMap]
  constructor
  · rintro ⟨v, hv, hx⟩
    obtain ⟨f, hf, rfl⟩ := List.mem_map.1 hv
    rcases (summ_i (IM.all_within ok_i0 ok_i f hf).1.all (hm f hf) x).1 hx with rfl | ⟨rfl, _⟩ <;> simp
  · intro hx
    have hf : [Fi1, Fi2] ∈ IM.all [] [Fi1, Fi2] := (IM.all_iff ok_i0 ok_i _ ok_i).2 ⟨rfl, cons_i2⟩
    refine ⟨_, List.mem_map.2 ⟨_, hf, rfl⟩, (summ_i ok_i.all (hm _ hf) x).2 ?_⟩
    simp only [List.mem_cons, List.mem_nil_iff, or_false] at hx
    rcases hx with rfl | rfl
    · exact .inl rfl
    · exact .inr ⟨rfl, by simp⟩

theorem awake9_blocks (w : World) :
    ∃ w4, (((w.alloc (.cells #[.int .i64 1, .int .i64 9, .int .i64 1, .int .i64 0, .int .i64 0, .int .i64 0, .int .i64 0] 67)).alloc (.cells #[.int .i64 201, .int .i64 1, .slice (some ⟨w.heap.size, 0, none⟩) 1 1, .int .i64 202, .int .i64 1, .slice (some ⟨w.heap.size, 0, none⟩) 1 1] 70)).alloc
        (.cells #[.int .i64 1, .int .i64 1] 63)).alloc (.cells #[.slice (some ⟨w.heap.size + 1 + 1, 0, none⟩) 1 1, .int .i64 1, .int .i64 0, .int .i64 0] 35) = w4 ∧ Below w.heap.size w w4 ∧
      RdM w4 (.slice (some ⟨w.heap.size + 1 + 1, 0, none⟩) 1 1) Gi ∧ RdF w4 (.slice (some ⟨w.heap.size + 1, 0, none⟩) 2 2) [Fi1, Fi2] ∧ RdF w4 (.slice (some ⟨w.heap.size + 1, 0, none⟩) 1 2) [Fi1] ∧
      w4.heap[w.heap.size + 1 + 1 + 1]? = some (.cells #[.slice (some ⟨w.heap.size + 1 + 1, 0, none⟩) 1 1, .int .i64 1, .int .i64 0, .int .i64 0] 35 (0, 0)) := by
  have b1 := below_fresh w (.cells #[.int .i64 1, .int .i64 9, .int .i64 1, .int .i64 0, .int .i64 0, .int .i64 0, .int .i64 0] 67)
  have z1 := World.size_alloc w (.cells #[.int .i64 1, .int .i64 9, .int .i64 1, .int .i64 0, .int .i64 0, .int .i64 0, .int .i64 0] 67)
  have h1 : RdC (w.alloc (.cells #[.int .i64 1, .int .i64 9, .int .i64 1, .int .i64 0, .int .i64 0, .int .i64 0, .int .i64 0] 67)) (.slice (some ⟨w.heap.size, 0, none⟩) 1 1) Li := (ownG_fresh hlC 67 w Li (by simp [maxLen, Li])).rd
  generalize w.alloc (.cells #[.int .i64 1, .int .i64 9, .int .i64 1, .int .i64 0, .int .i64 0, .int .i64 0, .int .i64 0] 67) = w1 at *
  have b2 := below_fresh w1 (.cells #[.int .i64 201, .int .i64 1, .slice (some ⟨w.heap.size, 0, none⟩) 1 1, .int .i64 202, .int .i64 1, .slice (some ⟨w.heap.size, 0, none⟩) 1 1] 70)
  have z2 := World.size_alloc w1 (.cells #[.int .i64 201, .int .i64 1, .slice (some ⟨w.heap.size, 0, none⟩) 1 1, .int .i64 202, .int .i64 1, .slice (some ⟨w.heap.size, 0, none⟩) 1 1] 70)
  have h2 : RdQ (w1.alloc (.cells #[.int .i64 201, .int .i64 1, .slice (some ⟨w.heap.size, 0, none⟩) 1 1, .int .i64 202, .int .i64 1, .slice (some ⟨w.heap.size, 0, none⟩) 1 1] 70)) (.slice (some ⟨w1.heap.size, 0, none⟩) 2 2) [(201, 1, some ⟨w.heap.size, 0, none⟩, 1, 1), (202, 1, some ⟨w.heap.size, 0, none⟩, 1, 1)] :=
    (ownG_fresh hlQ 70 w1 [(201, 1, some ⟨w.heap.size, 0, none⟩, 1, 1), (202, 1, some ⟨w.heap.size, 0, none⟩, 1, 1)] (by simp [maxLen])).rd
  generalize w1.alloc (.cells #[.int .i64 201, .int .i64 1, .slice (some ⟨w.heap.size, 0, none⟩) 1 1, .int .i64 202, .int .i64 1, .slice (some ⟨w.heap.size, 0, none⟩) 1 1] 70) = w2 at *
  have b3 := below_fresh w2 (.cells #[.int .i64 1, .int .i64 1] 63)
  have z3 := World.size_alloc w2 (.cells #[.int .i64 1, .int .i64 1] 63)
  have h3 : RdM (w2.alloc (.cells #[.int .i64 1, .int .i64 1] 63)) (.slice (some ⟨w2.heap.size, 0, none⟩) 1 1) Gi := (ownG_fresh hlM 63 w2 Gi (by simp [maxLen, Gi])).rd
  generalize w2.alloc (.cells #[.int .i64 1, .int .i64 1] 63) = w3 at *
  have hz2 : w2.heap.size = w.heap.size + 1 + 1 := by omega
  have hz3 : w3.heap.size = w.heap.size + 1 + 1 + 1 := by omega
  rw [hz2] at h3
  rw [z1] at h2
  have b4 := below_fresh w3 (.cells #[.slice (some ⟨w.heap.size + 1 + 1, 0, none⟩) 1 1, .int .i64 1, .int .i64 0, .int .i64 0] 35)
  have h4 := heap_alloc_new w3 (.cells #[.slice (some ⟨w.heap.size + 1 + 1, 0, none⟩) 1 1, .int .i64 1, .int .i64 0, .int .i64 0] 35)
  rw [hz3] at h4
  have hQ := (h2.below b3).below b4
  have hC := ((h1.below b2).below b3).below b4
  exact ⟨_, rfl, bnext (bnext (bnext b1 b2) b3) b4, h3.below b4, ⟨_, hQ, ⟨rfl, rfl, hC⟩, ⟨rfl, rfl, hC⟩, trivial⟩, ⟨_, hQ.takeN 1 (by simp), ⟨rfl, rfl, hC⟩, trivial⟩, h4⟩

set_option maxRecDepth 100000 in
set_option maxHeartbeats 4000000 in
theorem cAwake9 (w : World) : Calls Tryz.prog 10 #[] w fun e w' => e = .returned (.bool true) ∧ Below w.heap.size w w' := by
  obtain ⟨w4, hw4, hB, hM, hF, hF1, hG⟩ := awake9_blocks w
  have HSP := Lib.hid (by
    have := cSpan _ (.slice none 0 0) _ 1 0 0 Gi [] [Fi1, Fi2] w4 hM (RdF.nil w4) hF ok_i0 ok_i gen_i (by decide)
    rw [span_i] at this
    exact this)
  have HCN := Lib.hid (fun w' (hb : Below w4.heap.size w4 w') => by
    have := cCount (.slice none 0 0) _ [] [Fi1, Fi2] w' (RdF.nil w') (hF.below hb) ok_i0 ok_i
    rw [iv_i] at this
    exact this)
  have HAL := Lib.hid (fun w' (hb : Below w4.heap.size w4 w') => cAll (.slice none 0 0) _ [] [Fi1, Fi2] w' (RdF.nil w') (hF.below hb) ok_i0 ok_i)
  have HWI := Lib.hid (fun w' (hb : Below w4.heap.size w4 w') => by
    have := cWithin (.slice none 0 0) _ _ [] [Fi1, Fi2] [Fi1] w' (RdF.nil w') (hF.below hb) (hF1.below hb) ok_i0 ok_i ok_i1
    rw [cons_i1] at this
    exact this)
  have HVW := Lib.hid (fun w' (hb : Below w4.heap.size w4 w') => cViews _ _ _ 1 0 0 Gi [Fi1, Fi2] [Fi1, Fi2] w' (hM.below hb) (hF.below hb) (hF.below hb) ok_i ok_i gen_i (by decide))
  have HB := Lib.hid hB
  have HG := Lib.hid hG
  have HW := Lib.hid hw4
  obtain ⟨⟨q0, q1, q2, q3⟩, _⟩ := row4_at hG
  clear hB hM hF hF1 hG hw4
  go_enter Tryz.func10, Tryz.ntmps10
  go_upto_region 4 with fail
  rw [HW.out]
  go_wp2_with fail
  refine HSP.out.mono ?_
  rintro e w5 ⟨v5, rfl, hr5, hb5⟩
  obtain ⟨a5, c5, hv5, _, _⟩ := hr5.shape
  have hv5 : v5 = .slice a5 2 c5 := hv5
  subst hv5
  obtain ⟨b1, o1, hi1, hb1, c1⟩ := atI hr5 1 9 rfl
  have HI1 := Lib.hid (show ∀ w0, (Instr.indexAt 44 (.slice a5 2 c5) (.int .i64 1)).run Tryz.prog w0 = .ok (.pointer (some ⟨b1, o1, none⟩)) w0 from hi1)
  have HR5 := Lib.hid (show ∀ w', Below w5.heap.size w5 w' → w'.cell? ⟨b1, o1, none⟩ = some (.int .i64 9) from fun w' hb => below_cell hb c1)
  have HB5 := Lib.hid hb5
  clear hr5 hb5 hi1 c1 q0 q1 q2 q3 HSP HW
  go_wp2_with fail
  refine (HCN.out w5 HB5.out).mono ?_
  rintro e w6 ⟨rfl, hb6⟩
  have HB6 := Lib.hid (bnext HB5.out hb6)
  have HB56 := Lib.hid hb6
  clear hb6 HCN
  go_wp2_with fail
  refine (HAL.out w6 HB6.out).mono ?_
  rintro e w7 ⟨v7, rfl, hr7, hb7⟩
  obtain ⟨a7, c7, hv7, _, _⟩ := hr7.rd.shape
  rw [all_i] at hv7
  subst hv7
  have HB7 := Lib.hid (bnext HB6.out hb7)
  have HB57 := Lib.hid (bnext HB56.out hb7)
  clear hr7 hb7 HAL HB56 HB6
  go_wp2_with fail
  refine (HWI.out w7 HB7.out).mono ?_
  rintro e w8 ⟨rfl, hb8⟩
  have HB8 := Lib.hid (bnext HB7.out hb8)
  have c1 := HR5.out w8 (bnext HB57.out hb8)
  have hi1 := HI1.out
  obtain ⟨⟨q0, q1, q2, q3⟩, _⟩ := row4_at (below_block HG.out HB8.out)
  clear hb8 HWI HB7 HB57
  go_wp2_with fail
  refine (HVW.out w8 HB8.out).mono ?_
  rintro e w9 ⟨v9, rfl, hr9, hb9⟩
  obtain ⟨a9, c9, hv9, _, _⟩ := hr9.shape
  rw [views_i] at hv9
  subst hv9
  have HEND := Lib.hid (bnext HB.out (bnext HB8.out hb9))
  clear hr9 hb9 HVW c1 hi1 q0 q1 q2 q3
  go_wp2
  go_ret
  exact ⟨rfl, HEND.out⟩

end Go.Proofs.YthfpafnljnnndaaGreat

namespace Go.Proofs.YthfpafnljnnndaaGreat
open Go.RowKit Go.Joins Go.Shelf
open JM (Chg)
open CM (Fp)
open VM (Ent)

theorem IM.iv_len (fa fb : List Fp) : (IM.all fa fb).length = (IM.iv fa fb).length := by unfold IM.all; rw [List.length_map]
theorem iTwo (w : World) (a b : Option Addr) (la ca lb cb : Nat) (fa fb : List Fp) (h1 : RdF w (.slice a la ca) fa) (h2 : RdF w (.slice b lb cb) fb) :
    RdLs RdF (w.alloc (.cells #[.slice a la ca, .slice b lb cb] 23)) (.slice (some ⟨w.heap.size, 0, none⟩) 2 2) [fa, fb] := by
  have hb := below_fresh w (.cells #[.slice a la ca, .slice b lb cb] 23)
  refine ⟨[((a, la, ca), fa), ((b, lb, cb), fb)], (ownG_fresh hlL 23 w [((a, la, ca), fa), ((b, lb, cb), fb)] (by unfold maxLen; simp)).rd, ?_, rfl⟩
  intro p hp
  simp only [List.mem_cons, List.mem_nil_iff, or_false] at hp
  rcases hp with rfl | rfl
  · exact h1.below hb
  · exact h2.below hb

set_option maxRecDepth 100000 in
set_option maxHeartbeats 4000000 in
theorem lIntervalAll (va vb vc : Value) (fa fb fc : List Fp) (w : World) (h1 : RdF w va fa) (h2 : RdF w vb fb) (h3 : RdF w vc fc) :
    Calls Tryz.prog 3 #[va, vb, vc] w fun e w' => e = .returned (.bool true) ∧ Below w.heap.size w w' := by
  obtain ⟨a, ca, rfl, _, _⟩ := h1.shape
  obtain ⟨b, cb, rfl, _, _⟩ := h2.shape
  obtain ⟨c, cc, rfl, _, _⟩ := h3.shape
  have H3 := iThree w a b c _ ca _ cb _ cc fa fb fc h1 h2 h3
  have hb0 := below_fresh w (.cells #[.slice a fa.length ca, .slice b fb.length cb, .slice c fc.length cc] 23)
  obtain ⟨w1, hw1⟩ : ∃ w1, w.alloc (.cells #[.slice a fa.length ca, .slice b fb.length cb, .slice c fc.length cc] 23) = w1 := ⟨_, rfl⟩
  rw [hw1] at H3 hb0
  have HV := Lib.hid (kValidL _ [fa, fb, fc] w1 H3)
  have HF := Lib.hid (And.intro h1 (And.intro h2 h3))
  have HB := Lib.hid hb0
  have HW := Lib.hid hw1
  have HAW := Lib.hid (fun w => cAwake9 w)
  clear H3 hb0 hw1 h1 h2 h3
  generalize fa.length = la at *
  generalize fb.length = lb at *
  generalize fc.length = lc at *
  by_cases l1 : 30 < la
  · have q1 : (30 : Int) < (la : Int) := by omega
    clear HV HW HF HB
    go_enter Tryz.func3, Tryz.ntmps3
    go_wp2_with fail
    refine (HAW.out w).mono ?_
    rintro e w2 ⟨rfl, hb2⟩
    go_wp2
    go_ret
    exact ⟨rfl, hb2⟩
  have q1 : ¬ (30 : Int) < (la : Int) := by omega
  by_cases l2 : 30 < lb
  · have q2 : (30 : Int) < (lb : Int) := by omega
    clear HV HW HF HB
    go_enter Tryz.func3, Tryz.ntmps3
    go_wp2_with fail
    refine (HAW.out w).mono ?_
    rintro e w2 ⟨rfl, hb2⟩
    go_wp2
    go_ret
    exact ⟨rfl, hb2⟩
  have q2 : ¬ (30 : Int) < (lb : Int) := by omega
  by_cases l3 : 30 < lc
  · have q3 : (30 : Int) < (lc : Int) := by omega
    clear HV HW HF HB
    go_enter Tryz.func3, Tryz.ntmps3
    go_wp2_with fail
    refine (HAW.out w).mono ?_
    rintro e w2 ⟨rfl, hb2⟩
    go_wp2
    go_ret
    exact ⟨rfl, hb2⟩
  have q3 : ¬ (30 : Int) < (lc : Int) := by omega
  go_enter Tryz.func3, Tryz.ntmps3
  go_wp2_with fail
  rw [HW.out]
  refine HV.out.mono ?_
  rintro e w2 ⟨B, rfl, hB, hb2⟩
  have HB2 := Lib.hid (bnext HB.out hb2)
  have HK := Lib.hid hB
  clear hB hb2 HV HW HB q1 q2 q3 l1 l2 l3
  cases B
  · go_wp2_with fail
    refine (HAW.out w2).mono ?_
    rintro e w3 ⟨rfl, hb3⟩
    go_wp2
    go_ret
    exact ⟨rfl, bnext HB2.out hb3⟩
  obtain ⟨hok, hag⟩ := HK.out rfl
  have o1 : CM.Ok fa := hok fa (by simp)
  have o2 : CM.Ok fb := hok fb (by simp)
  have o3 : CM.Ok fc := hok fc (by simp)
  have g10 : CM.Agr fb fa := hag 1 0 fb fa rfl rfl (by decide)
  have g20 : CM.Agr fc fa := hag 2 0 fc fa rfl rfl (by decide)
  have g21 : CM.Agr fc fb := hag 2 1 fc fb rfl rfl (by decide)
  obtain ⟨h1, h2, h3⟩ := HF.out
  have HRA := Lib.hid (fun w' (hb : Below w.heap.size w w') => rAll _ _ fa fb w' (h1.below hb) (h2.below hb) o1 o2 g10)
  have HCA := Lib.hid (fun w' (hb : Below w.heap.size w w') => cAll _ _ fa fb w' (h1.below hb) (h2.below hb) o1 o2)
  have HCN := Lib.hid (fun w' (hb : Below w.heap.size w w') => cCount _ _ fa fb w' (h1.below hb) (h2.below hb) o1 o2)
  have HWI := Lib.hid (fun w' (hb : Below w.heap.size w w') => cWithin _ _ _ fa fb fc w' (h1.below hb) (h2.below hb) (h3.below hb) o1 o2 o3)
  have hwr := fun w' (hb : Below w.heap.size w w') => rWithin _ _ _ fa fb fc w' (h1.below hb) (h2.below hb) (h3.below hb)
  rw [CM.conk_cons g20, CM.conk_cons g21.symm] at hwr
  have HWR := Lib.hid hwr
  have HSM := Lib.hid (fun u v w' (hx : RdLs RdF w' u (IM.all fa fb)) (hy : RdLs RdF w' v (IM.all fa fb)) => lSame9 u v _ _ w' hx hy rfl)
  rw [← IM.iv_len] at HCN
  clear hok hag o1 o2 o3 g10 g20 g21 h1 h2 h3 hwr HK HF
  generalize (CM.cons fc fa && CM.cons fb fc) = W1 at *
  generalize IM.all fa fb = L at *
  have he : ((L.length : Int) == (L.length : Int)) = true := beq_t rfl
  have he2 : (W1 == W1) = true := by cases W1 <;> rfl
  have HEL := Lib.hid he
  have HEW := Lib.hid he2
  clear he he2
  go_wp2_with fail
  refine (HRA.out w2 HB2.out).mono ?_
  rintro e w3 ⟨v3, rfl, hr3, hb3⟩
  have hr3 := hr3.rd.imp (fun u x h => h.rd hb3)
  obtain ⟨a3, c3, hv3, _, _⟩ := hr3.shape
  have HR3 := Lib.hid hr3
  have HB3 := Lib.hid (bnext HB2.out hb3)
  subst hv3
  clear hr3 hb3 HRA HB2
  go_wp2_with fail
  refine (HCA.out w3 HB3.out).mono ?_
  rintro e w4 ⟨v4, rfl, hr4, hb4⟩
  have hr4 := hr4.rd.imp (fun u x h => h.rd)
  obtain ⟨a4, c4, hv4, _, _⟩ := hr4.shape
  have HS := Lib.hid (HSM.out _ _ w4 hr4 (HR3.out.below hb4 (fun u x h => h.below hb4)))
  have HB4 := Lib.hid (bnext HB3.out hb4)
  subst hv4
  clear hr4 hb4 HCA HB3 HSM HR3
  generalize L.length = n at *
  go_wp2_with fail
  refine HS.out.mono ?_
  rintro e w5 ⟨rfl, hb5⟩
  have HB5 := Lib.hid (bnext HB4.out hb5)
  clear hb5 HS HB4
  go_wp2_with fail
  refine (HCN.out w5 HB5.out).mono ?_
  rintro e w6 ⟨rfl, hb6⟩
  have HB6 := Lib.hid (bnext HB5.out hb6)
  have he := HEL.out
  clear hb6 HCN HB5
  go_wp2_with fail
  refine (HWI.out w6 HB6.out).mono ?_
  rintro e w7 ⟨rfl, hb7⟩
  have HB7 := Lib.hid (bnext HB6.out hb7)
  clear hb7 HWI HB6 he
  go_wp2_with fail
  refine (HWR.out w7 HB7.out).mono ?_
  rintro e w8 ⟨rfl, hb8⟩
  have HB8 := Lib.hid (bnext HB7.out hb8)
  have he2 := HEW.out
  clear hb8 HWR HB7
  go_wp2_with fail
  refine (HAW.out w8).mono ?_
  rintro e w9 ⟨rfl, hb9⟩
  go_wp2
  go_ret
  exact ⟨rfl, bnext HB8.out hb9⟩

end Go.Proofs.YthfpafnljnnndaaGreat

namespace Go.Proofs.YthfpafnljnnndaaGreat
open Go.RowKit Go.Joins Go.Shelf
open JM (Chg)
open CM (Fp)
open VM (Ent)

namespace IM
def occ (L : List (List Fp)) (c : List Fp) (i : Nat) : Nat := ((L.take i).filter fun x => decide (x = c)).length
theorem occ_hit {L : List (List Fp)} {c x : List Fp} {i : Nat} (h : L[i]? = some x) (hx : x = c) : occ L c (i + 1) = occ L c i + 1 := by
  unfold occ
  rw [List.take_add_one, h, List.filter_append, List.length_append]
  simp [hx]
theorem occ_miss {L : List (List Fp)} {c x : List Fp} {i : Nat} (h : L[i]? = some x) (hx : ¬ x = c) : occ L c (i + 1) = occ L c i := by
  unfold occ
  rw [List.take_add_one, h, List.filter_append, List.length_append]
  simp [hx]
theorem occ_le (L : List (List Fp)) (c : List Fp) (i : Nat) : occ L c i ≤ i := by
  unfold occ
  exact Nat.le_trans (List.length_filter_le _ _) (by rw [List.length_take]; omega)
theorem occ_out {L : List (List Fp)} {c : List Fp} (h : ¬ c ∈ L) : occ L c L.length = 0 := by
  unfold occ
  rw [List.take_length, List.length_eq_zero_iff, List.filter_eq_nil_iff]
  intro x hx
  have : ¬ x = c := fun e => h (e ▸ hx)
  simpa using this
theorem occ_in {L : List (List Fp)} (hn : L.Pairwise (· ≠ ·)) {c : List Fp} (h : c ∈ L) : occ L c L.length = 1 := by
  unfold occ
  rw [List.take_length]
  induction L with
  | nil => cases h
  | cons x L ih =>
    obtain ⟨h1, h2⟩ := List.pairwise_cons.1 hn
    by_cases hx : x = c
    · have h0 : ¬ c ∈ L := fun hc => h1 c hc hx
      have := occ_out h0
      unfold occ at this
      rw [List.take_length] at this
      rw [List.filter_cons_of_pos (by simpa using hx), List.length_cons, this]
    · rw [List.filter_cons_of_neg (by simpa using hx)]
      rcases List.mem_cons.1 h with h3 | h3
      · exact absurd h3.symm hx
      · exact ih h2 h3
theorem agr_parts {p : List Fp} (h : CM.Ok p) (g k : Int → Int) : CM.Agr (CM.rs p g) (CM.rs p k) := fun _ hx _ hy e1 e2 => h.srt.key (CM.rs_mem.1 hx).1 (CM.rs_mem.1 hy).1 ⟨e1, e2⟩
end IM

set_option maxRecDepth 100000 in
set_option maxHeartbeats 4000000 in
theorem lIntervalMembers (v : Value) (l : List Int) (x y z : Int) (w : World) (h : RdI w v l) (hl : l.length ≤ 4611686018427387904) :
    Calls Tryz.prog 5 #[v, .int .i64 x, .int .i64 y, .int .i64 z] w fun e w' => e = .returned (.bool true) ∧ Below w.heap.size w w' := by
  have HP := Lib.hid (kPool v l w h hl)
  have HAW := Lib.hid (fun w => cAwake9 w)
  obtain ⟨ad, cp, rfl, _, _⟩ := h.shape
  clear h hl
  go_enter Tryz.func5, Tryz.ntmps5
  go_wp2_with fail
  refine HP.out.mono ?_
  rintro e w1 ⟨u, p, rfl, hr1, hok, hb1⟩
  have HOK := Lib.hid hok
  have HPT := Lib.hid (fun n w' (hb : Below w1.heap.size w1 w') => kPart u p n w' (hr1.below hb) (by have := hok.nine; omega))
  obtain ⟨ua, uc, hu, _, _⟩ := hr1.shape
  subst hu
  generalize p.length = pl at *
  have HB1 := Lib.hid hb1
  clear hr1 hok hb1 HP
  go_wp2_with fail
  refine (HPT.out x w1 (Below.refl _ _)).mono ?_
  rintro e w2 ⟨u1, g1, rfl, hr2, hb2⟩
  obtain ⟨a1, c1, hu1, _, _⟩ := hr2.shape
  have HFA := Lib.hid hr2
  have HB2 := Lib.hid hb2
  subst hu1
  clear hr2 hb2
  go_wp2_with fail
  refine (HPT.out y w2 HB2.out).mono ?_
  rintro e w3 ⟨u2, g2, rfl, hr3, hb3⟩
  obtain ⟨a2, c2, hu2, _, _⟩ := hr3.shape
  replace HFA := Lib.hid (HFA.out.below hb3)
  have HFB := Lib.hid hr3
  replace HB2 := Lib.hid (bnext HB2.out hb3)
  subst hu2
  clear hr3 hb3
  go_wp2_with fail
  refine (HPT.out z w3 HB2.out).mono ?_
  rintro e w4 ⟨u3, g3, rfl, hr4, hb4⟩
  obtain ⟨a3, c3, hu3, _, _⟩ := hr4.shape
  have h1 := HFA.out.below hb4
  have h2 := HFB.out.below hb4
  have h3 := hr4
  have HB4 := Lib.hid (bnext HB1.out (bnext HB2.out hb4))
  subst hu3
  have o1 := HOK.out.rs g1
  have o2 := HOK.out.rs g2
  have o3 := HOK.out.rs g3
  have HCA := Lib.hid (cAll _ _ _ _ w4 h1 h2 o1 o2)
  have HWI := Lib.hid (fun vx fx w' (hb : Below w4.heap.size w4 w') (hx : RdF w' vx fx) (ox : CM.Ok fx) => cWithin _ _ _ _ _ fx w' (h1.below hb) (h2.below hb) hx o1 o2 ox)
  have HIN := Lib.hid (fun x hx => IM.all_within o1 o2 x hx)
  have HND := Lib.hid (IM.all_nodup o1 o2)
  have HIF := Lib.hid (IM.all_iff o1 o2 (CM.rs p g3) o3)
  have k1 := fun w' (hb : Below w4.heap.size w4 w') => rContains _ _ _ _ w' (h3.below hb) (h1.below hb)
  have k2 := fun w' (hb : Below w4.heap.size w4 w') => rContains _ _ _ _ w' (h2.below hb) (h3.below hb)
  rw [CM.conk_cons (IM.agr_parts HOK.out g3 g1)] at k1
  rw [CM.conk_cons (IM.agr_parts HOK.out g2 g3)] at k2
  have HK1 := Lib.hid k1
  have HK2 := Lib.hid k2
  have HF3 := Lib.hid h3
  have HO3 := Lib.hid o3
  have hl9 : (IM.all (CM.rs p g1) (CM.rs p g2)).length ≤ 1000 := by rw [IM.iv_len]; exact (IM.iv_ok o1 o2).2
  clear hr4 hb4 h1 h2 h3 o1 o2 o3 k1 k2 HFA HFB HB2 HPT HOK HB1
  generalize CM.rs p g1 = fa at *
  generalize CM.rs p g2 = fb at *
  generalize CM.rs p g3 = fc at *
  generalize fa.length = la at *
  generalize fb.length = lb at *
  generalize fc.length = lc at *
  go_wp2_with fail
  refine HCA.out.mono ?_
  rintro e w5 ⟨v5, rfl, hr5, hb5⟩
  have hr5 := hr5.rd.imp (fun u x h => h.rd)
  obtain ⟨a5, c5, hv5, _, _⟩ := hr5.shape
  generalize IM.all fa fb = L at *
  have HR5 := Lib.hid hr5
  have HB5 := Lib.hid hb5
  subst hv5
  clear hr5 hb5 HCA
  go_wp2
  go_loopw [14, 15] (fun n ix wr => ∃ i : Nat, i ≤ L.length ∧ ix = .int .i64 i ∧ n = .int .i64 (IM.occ L fc i) ∧ Hid (Below w5.heap.size w5 wr)) (fun _ ix _ => L.length - (intOf ix).toNat)
  case atStart => exact ⟨0, Nat.zero_le _, rfl, rfl, Lib.hid (Below.refl _ _)⟩
  case round =>
    obtain ⟨i, hii, rfl, rfl, hbw⟩ := hrel
    by_cases hlt : i < L.length
    case neg =>
      have hq2 : ¬ ((i : Int) < (L.length : Int)) := by omega
      obtain rfl : i = L.length := by omega
      have HBW := Lib.hid (bnext HB5.out hbw.out)
      have HW1 := Lib.hid (HWI.out _ fc wr HBW.out (HF3.out.below HBW.out) HO3.out)
      have HW2 := Lib.hid (fun w' (hb : Below wr.heap.size wr w') => HWI.out _ fc w' (bnext HBW.out hb) (HF3.out.below (bnext HBW.out hb)) HO3.out)
      have hoc : (CM.cons fc fa && CM.cons fb fc) = true ∧ IM.occ L fc L.length = 1 ∨ (CM.cons fc fa && CM.cons fb fc) = false ∧ IM.occ L fc L.length = 0 := by
        by_cases hm : fc ∈ L
        · exact .inl ⟨by rw [Bool.and_eq_true]; exact HIF.out.1 hm, IM.occ_in HND.out hm⟩
        · refine .inr ⟨?_, IM.occ_out hm⟩
          cases hb : (CM.cons fc fa && CM.cons fb fc)
          · rfl
          · rw [Bool.and_eq_true] at hb; exact absurd (HIF.out.2 hb) hm
      clear hbw HWI HIN HND HIF HF3 HO3 HR5
      generalize CM.cons fc fa = b1 at *
      generalize CM.cons fb fc = b2 at *
      have HLast := HAW
      obtain ⟨n, hn⟩ : ∃ n, n = IM.occ L fc L.length := ⟨_, rfl⟩
      rw [← hn] at hoc ⊢
      clear hn hii hlt hl9
      generalize L.length = ll at *
      cases b1
      · obtain rfl : n = 0 := by rcases hoc with ⟨h, _⟩ | ⟨_, h⟩; · cases h
                                 · exact h
        clear hoc HK2
        go_wp2_with fail
        refine HW1.out.mono ?_
        rintro e w6 ⟨rfl, hb6⟩
        have HB6 := Lib.hid hb6
        clear hb6
        go_wp2_with fail
        refine (HW2.out w6 HB6.out).mono ?_
        rintro e w7 ⟨rfl, hb7⟩
        have HB7 := Lib.hid (bnext HB6.out hb7)
        clear hb7
        go_wp2_with fail
        refine (HK1.out w7 (bnext HBW.out HB7.out)).mono ?_
        rintro e w8 ⟨rfl, hb8⟩
        have HB8 := Lib.hid (bnext HB7.out hb8)
        clear hb8
        go_wp2_with fail
        refine (HAW.out w8).mono ?_
        rintro e w9 ⟨rfl, hb9⟩
        have HE := Lib.hid (bnext HB4.out (bnext HBW.out (bnext HB8.out hb9)))
        go_wp2
        go_ret
        exact ⟨rfl, HE.out⟩
      · cases b2
        case' false =>
          obtain rfl : n = 0 := by rcases hoc with ⟨h, _⟩ | ⟨_, h⟩; · cases h
                                   · exact h
        case' true =>
          obtain rfl : n = 1 := by rcases hoc with ⟨_, h⟩ | ⟨h, _⟩; · exact h
                                   · cases h
        all_goals
          clear hoc
          go_wp2_with fail
          refine HW1.out.mono ?_
          rintro e w6 ⟨rfl, hb6⟩
          have HB6 := Lib.hid hb6
          clear hb6
          go_wp2_with fail
          refine (HW2.out w6 HB6.out).mono ?_
          rintro e w7 ⟨rfl, hb7⟩
          have HB7 := Lib.hid (bnext HB6.out hb7)
          clear hb7
          go_wp2_with fail
          refine (HK1.out w7 (bnext HBW.out HB7.out)).mono ?_
          rintro e w8 ⟨rfl, hb8⟩
          have HB8 := Lib.hid (bnext HB7.out hb8)
          clear hb8
          go_wp2_with fail
          refine (HK2.out w8 (bnext HBW.out HB8.out)).mono ?_
          rintro e w9 ⟨rfl, hb9⟩
          have HB9 := Lib.hid (bnext HB8.out hb9)
          clear hb9
          go_wp2_with fail
          refine (HAW.out w9).mono ?_
          rintro e w10 ⟨rfl, hb10⟩
          have HE := Lib.hid (bnext HB4.out (bnext HBW.out (bnext HB9.out hb10)))
          go_wp2
          go_ret
          exact ⟨rfl, HE.out⟩
    have hq2 : (i : Int) < (L.length : Int) := by omega
    have hat := List.getElem?_eq_getElem hlt
    generalize L[i] = f at hat
    obtain ⟨xb, xo, xad, xl, xcp, hix, hxb, hxc, hxo⟩ := HR5.out.at_ cfgE i f hat
    obtain ⟨of, c1', c2'⟩ := HIN.out f (List.mem_of_getElem? hat)
    have HXC := Lib.hid (show ∀ w', Below wr.heap.size wr w' → w'.cell? ⟨xb, xo, none⟩ = some (.slice xad xl xcp) from fun w' hb => below_cell (bnext hbw.out hb) hxc)
    have hxc := HXC.out wr (Below.refl _ _)
    have HEQ := Lib.hid (rEqualConfig _ _ f fc wr (hxo.below hbw.out) (HF3.out.below (bnext HB5.out hbw.out)))
    have hwi := fun w' (hb : Below wr.heap.size wr w') => HWI.out _ f w' (bnext HB5.out (bnext hbw.out hb)) (hxo.below (bnext hbw.out hb)) of
    rw [c1', c2'] at hwi
    have HWF := Lib.hid hwi
    have hvc := fun w' (hb : Below wr.heap.size wr w') => rValidateC _ f w' (hxo.below (bnext hbw.out hb))
    rw [show CM.errL (0, 0) f = 0 from of] at hvc
    have HVC := Lib.hid hvc
    have HBW := hbw
    have hol := IM.occ_le L fc i
    have hil : (i : Int) ≤ 1000 := by omega
    have hio : ((IM.occ L fc i : Nat) : Int) ≤ 1000 := by omega
    by_cases hfc : f = fc
    · have HN := Lib.hid (IM.occ_hit hat hfc)
      rw [decide_eq_true hfc] at HEQ
      clear hat hxo hwi hvc hbw hol of c1' c2' hfc
      go_wp2_with fail
      refine HEQ.out.mono ?_
      rintro e w6 ⟨rfl, hb6⟩
      have hxc := HXC.out w6 hb6
      have HB6 := Lib.hid hb6
      clear hb6 HEQ
      generalize IM.occ L fc i = no at *
      go_wp2_with fail
      refine (HWF.out w6 HB6.out).mono ?_
      rintro e w7 ⟨rfl, hb7⟩
      have HB7 := Lib.hid (bnext HB6.out hb7)
      have hxc := HXC.out w7 HB7.out
      clear hb7
      go_wp2_with fail
      refine (HVC.out w7 HB7.out).mono ?_
      rintro e w8 ⟨rfl, hb8⟩
      have HB8 := Lib.hid (bnext HBW.out (bnext HB7.out hb8))
      clear hb8 hxc
      go_wp2
      go_roundw
      case rel => exact ⟨i + 1, by omega, by go_num, by rw [HN.out]; go_num, HB8⟩
      case measure => simp [intOf]; omega
    · have HN := Lib.hid (IM.occ_miss hat hfc)
      rw [decide_eq_false hfc] at HEQ
      clear hat hxo hwi hvc hbw hol of c1' c2' hfc
      go_wp2_with fail
      refine HEQ.out.mono ?_
      rintro e w6 ⟨rfl, hb6⟩
      have hxc := HXC.out w6 hb6
      have HB6 := Lib.hid hb6
      clear hb6 HEQ
      generalize IM.occ L fc i = no at *
      go_wp2_with fail
      refine (HWF.out w6 HB6.out).mono ?_
      rintro e w7 ⟨rfl, hb7⟩
      have HB7 := Lib.hid (bnext HB6.out hb7)
      have hxc := HXC.out w7 HB7.out
      clear hb7
      go_wp2_with fail
      refine (HVC.out w7 HB7.out).mono ?_
      rintro e w8 ⟨rfl, hb8⟩
      have HB8 := Lib.hid (bnext HBW.out (bnext HB7.out hb8))
      clear hb8 hxc
      go_wp2
      go_roundw
      case rel => exact ⟨i + 1, by omega, by go_num, by rw [HN.out], HB8⟩
      case measure => simp [intOf]; omega

end Go.Proofs.YthfpafnljnnndaaGreat

namespace Go.Proofs.YthfpafnljnnndaaGreat
open Go.RowKit Go.Joins Go.Shelf
open JM (Chg)
open CM (Fp)
open VM (Ent)

namespace IM
/-- The product of the numbers of choices of the first j administrators. -/
def prd (fa fb : List Fp) : Nat → Int
  | 0 => 1
  | j + 1 => prd fa fb j * (1 + CM.ct fb (201 + (j : Int)) - CM.ct fa (201 + (j : Int)))
theorem prd_bd {fa fb : List Fp} (o1 : CM.Ok fa) (o2 : CM.Ok fb) (hc : CM.cons fb fa = true) : ∀ j : Nat, 1 ≤ prd fa fb j ∧ prd fa fb j ≤ 4 ^ j
  | 0 => ⟨Int.le_refl _, Int.le_refl _⟩
  | j + 1 => by
    obtain ⟨h1, h2⟩ := prd_bd o1 o2 hc j
    have m1 := ct_mono o1 o2 hc (201 + (j : Int))
    have m2 := CM.ct_pos fa (201 + (j : Int))
    have m3 := o2.ct3 (201 + (j : Int))
    have e : prd fa fb (j + 1) = prd fa fb j * (1 + CM.ct fb (201 + (j : Int)) - CM.ct fa (201 + (j : Int))) := rfl
    obtain ⟨m, hm⟩ : ∃ m, m = 1 + CM.ct fb (201 + (j : Int)) - CM.ct fa (201 + (j : Int)) := ⟨_, rfl⟩
    rw [e, ← hm]
    have q1 : 1 ≤ m := by omega
    have q2 : m ≤ 4 := by omega
    constructor
    · exact Int.le_trans h1 (by have := Int.mul_le_mul_of_nonneg_left q1 (show 0 ≤ prd fa fb j by omega); omega)
    · rw [Int.pow_succ]
      exact Int.mul_le_mul h2 q2 (by omega) (by have : (0 : Int) ≤ 4 ^ j := Int.pow_nonneg (by decide); exact this)
theorem prd_len {fa fb : List Fp} (o1 : CM.Ok fa) (o2 : CM.Ok fb) (hc : CM.cons fb fa = true) : ((all fa fb).length : Int) = prd fa fb 3 := by
  rw [all_len o1 o2 hc]
  have e : prd fa fb 3 = 1 * (1 + CM.ct fb 201 - CM.ct fa 201) * (1 + CM.ct fb 202 - CM.ct fa 202) * (1 + CM.ct fb 203 - CM.ct fa 203) := rfl
  rw [e, Int.one_mul, show CM.ct fb 201 - CM.ct fa 201 + 1 = 1 + CM.ct fb 201 - CM.ct fa 201 by omega, show CM.ct fb 202 - CM.ct fa 202 + 1 = 1 + CM.ct fb 202 - CM.ct fa 202 by omega, show CM.ct fb 203 - CM.ct fa 203 + 1 = 1 + CM.ct fb 203 - CM.ct fa 203 by omega]
theorem cons_part (p : List Fp) (g : Int → Int) : CM.cons p (CM.rs p g) = true := CM.cons_iff.2 fun _ hf => (CM.rs_mem.1 hf).1
end IM

/-- The count of a proposal's administrator in the reference's vector. -/
theorem ct_vr {fs : List Fp} (h : CM.Ok fs) (a : Int) : VM.cnt (CM.vr fs) a = CM.ct fs a := by
  have := (vo_take h.all (by have := h.nine; omega) fs.length).2.1 a
  rwa [List.take_length] at this

set_option maxRecDepth 100000 in
set_option maxHeartbeats 4000000 in
theorem lIntervalCount (v : Value) (l : List Int) (x y : Int) (w : World) (h : RdI w v l) (hl : l.length ≤ 4611686018427387904) :
    Calls Tryz.prog 6 #[v, .int .i64 x, .int .i64 y] w fun e w' => e = .returned (.bool true) ∧ Below w.heap.size w w' := by
  have HP := Lib.hid (kPool v l w h hl)
  have HAW := Lib.hid (fun w => cAwake9 w)
  obtain ⟨ad, cp, rfl, _, _⟩ := h.shape
  clear h hl
  go_enter Tryz.func6, Tryz.ntmps6
  go_wp2_with fail
  refine HP.out.mono ?_
  rintro e w1 ⟨u, p, rfl, hr1, hok, hb1⟩
  have HOK := Lib.hid hok
  have HPT := Lib.hid (kPart u p y w1 hr1 (by have := hok.nine; omega))
  obtain ⟨ua, uc, hu, _, _⟩ := hr1.shape
  subst hu
  generalize p.length = pl at *
  have HB1 := Lib.hid hb1
  clear hr1 hok hb1 HP
  go_wp2_with fail
  refine HPT.out.mono ?_
  rintro e w2 ⟨u2, g2, rfl, hr2, hb2⟩
  have o2 := HOK.out.rs g2
  have HPF := Lib.hid (kPart u2 _ x w2 hr2 (by have := o2.nine; omega))
  obtain ⟨a2, c2, hu2, _, _⟩ := hr2.shape
  have HFB := Lib.hid hr2
  have HB2 := Lib.hid (bnext HB1.out hb2)
  have HO2 := Lib.hid o2
  subst hu2
  clear hr2 hb2 HPT o2 HOK HB1
  generalize CM.rs p g2 = fb at *
  generalize fb.length = lb at *
  go_wp2_with fail
  refine HPF.out.mono ?_
  rintro e w3 ⟨u3, g3, rfl, hr3, hb3⟩
  obtain ⟨a3, c3, hu3, _, _⟩ := hr3.shape
  have h1 := hr3
  have h2 := HFB.out.below hb3
  have HB3 := Lib.hid (bnext HB2.out hb3)
  subst hu3
  have o1 := HO2.out.rs g3
  have o2 := HO2.out
  have hc := IM.cons_part fb g3
  have HVA := Lib.hid (fun w' (hb : Below w3.heap.size w3 w') => rVectorOf _ _ w' (h1.below hb) o1.all (by have := o1.nine; omega))
  have HVB := Lib.hid (fun w' (hb : Below w3.heap.size w3 w') => rVectorOf _ _ w' (h2.below hb) o2.all (by have := o2.nine; omega))
  have HCA := Lib.hid (fun w' (hb : Below w3.heap.size w3 w') => cAll _ _ _ _ w' (h1.below hb) (h2.below hb) o1 o2)
  have hcn := fun w' (hb : Below w3.heap.size w3 w') => cCount _ _ _ _ w' (h1.below hb) (h2.below hb) o1 o2
  have HPB := Lib.hid (fun j => IM.prd_bd o1 o2 hc j)
  have HPL := Lib.hid (IM.prd_len o1 o2 hc)
  obtain ⟨e1, e2⟩ := IM.all_ends o1 o2 hc
  have HE1 := Lib.hid e1
  have HE2 := Lib.hid e2
  have HQA := Lib.hid (fun vx w' (hb : Below w3.heap.size w3 w') (hx : RdF w' vx (CM.rs fb g3)) => pEqual vx _ _ _ w' hx (h1.below hb) rfl)
  have HQB := Lib.hid (fun vx w' (hb : Below w3.heap.size w3 w') (hx : RdF w' vx fb) => pEqual vx _ _ _ w' hx (h2.below hb) rfl)
  have HTA := Lib.hid (fun a => ct_vr o1 a)
  have HTB := Lib.hid (fun a => ct_vr o2 a)
  have HPS := Lib.hid (show ∀ j : Nat, IM.prd (CM.rs fb g3) fb (j + 1) = IM.prd (CM.rs fb g3) fb j * (1 + CM.ct fb (201 + (j : Int)) - CM.ct (CM.rs fb g3) (201 + (j : Int))) from fun j => rfl)
  have HP0 := Lib.hid (show IM.prd (CM.rs fb g3) fb 0 = 1 from rfl)
  have HDA := Lib.hid (fun a => And.intro (CM.ct_pos (CM.rs fb g3) a) (o1.ct3 a))
  have HDB := Lib.hid (fun a => And.intro (CM.ct_pos fb a) (o2.ct3 a))
  rw [← IM.iv_len] at hcn
  have HCN := Lib.hid hcn
  clear hr3 hb3 h1 h2 o1 o2 hc hcn e1 e2 HFB HB2 HPF HO2
  generalize CM.rs fb g3 = fa at *
  generalize fa.length = la at *
  generalize CM.vr fa = VA at *
  generalize CM.vr fb = VB at *
  generalize CM.ct fa = ta at *
  generalize CM.ct fb = tb at *
  generalize IM.prd fa fb = PR at *
  go_wp2
  go_loopw [10, 11] (fun n ix wr => ∃ i : Nat, i ≤ 3 ∧ ix = .int .i64 i ∧ n = .int .i64 (PR i) ∧ Hid (Below w3.heap.size w3 wr)) (fun _ ix _ => 3 - (intOf ix).toNat)
  case atStart => exact ⟨0, by decide, rfl, by rw [HP0.out], Lib.hid (Below.refl _ _)⟩
  case round =>
    obtain ⟨i, hii, rfl, rfl, hbw⟩ := hrel
    by_cases hlt : i < 3
    case neg =>
      have hq2 : ¬ ((i : Int) < 3) := by omega
      obtain rfl : i = 3 := by omega
      have HBW := hbw
      have hn := HPB.out 3
      rw [← HPL.out] at hn ⊢
      clear hbw HPB HPL HTA HTB HPS HP0 HDA HDB HVA HVB
      go_wp2_with fail
      refine (HCA.out wr HBW.out).mono ?_
      rintro e w5 ⟨v5, rfl, hr5, hb5⟩
      have hr5 := hr5.rd.imp (fun u x h => h.rd)
      obtain ⟨a5, c5, hv5, _, _⟩ := hr5.shape
      generalize IM.all fa fb = L at *
      have HB5 := Lib.hid (bnext HBW.out hb5)
      have hL0 : 0 < L.length := by omega
      have hx0 : L[0]? = some fa := by rw [← List.head?_eq_getElem?]; exact HE1.out
      have hxn : L[L.length - 1]? = some fb := by rw [← List.getLast?_eq_getElem?]; exact HE2.out
      subst hv5
      obtain ⟨b0, o0, ad0, l0, cp0, hi0, hb0, hc0, hr0⟩ := hr5.at_ cfgE 0 _ hx0
      obtain ⟨bn, on, adn, ln, cpn, hin, hbn, hcn, hrn⟩ := hr5.at_ cfgE (L.length - 1) _ hxn
      have hi0' : ∀ w0, (Instr.indexAt 25 (.slice a5 L.length c5) (.int .i64 0)).run Tryz.prog w0 = .ok (.pointer (some ⟨b0, o0, none⟩)) w0 := hi0
      have hcast : ((L.length - 1 : Nat) : Int) = (L.length : Int) - 1 := by omega
      rw [hcast] at hin
      have HC0 := Lib.hid (show ∀ w', Below w5.heap.size w5 w' → w'.cell? ⟨b0, o0, none⟩ = some (.slice ad0 l0 cp0) ∧ RdF w' (.slice ad0 l0 cp0) fa from fun w' hb => ⟨below_cell hb hc0, hr0.below hb⟩)
      have HCn := Lib.hid (show ∀ w', Below w5.heap.size w5 w' → w'.cell? ⟨bn, on, none⟩ = some (.slice adn ln cpn) ∧ RdF w' (.slice adn ln cpn) fb from fun w' hb => ⟨below_cell hb hcn, hrn.below hb⟩)
      have HI0 := Lib.hid hi0'
      have HIN := Lib.hid hin
      clear hr5 hb5 hx0 hxn hi0 hb0 hc0 hr0 hin hbn hcn hrn hcast hi0' HCA HBW HE1 HE2 hii hlt
      generalize L.length = ll at *
      have hnn : ((ll : Int) != (ll : Int)) = false := by simp
      have hge : ¬ ((ll : Int) < 1) := by omega
      go_wp2_with fail
      refine (HCN.out w5 HB5.out).mono ?_
      rintro e w6 ⟨rfl, hb6⟩
      obtain ⟨hc0, hr0⟩ := HC0.out w6 hb6
      have hi0 := HI0.out
      have HB6 := Lib.hid (bnext HB5.out hb6)
      have HB56 := Lib.hid hb6
      have HQ := Lib.hid (HQA.out _ w6 HB6.out hr0)
      clear hb6 hr0 HCN HQA HI0 HC0
      go_wp2_with fail
      refine HQ.out.mono ?_
      rintro e w7 ⟨rfl, hb7⟩
      obtain ⟨hcn, hrn⟩ := HCn.out w7 (bnext HB56.out hb7)
      have hin := HIN.out
      have HB7 := Lib.hid (bnext HB6.out hb7)
      have HQ2 := Lib.hid (HQB.out _ w7 HB7.out hrn)
      have hlb : (ll : Int) ≤ 64 := hn.2
      clear hb7 hrn hc0 hi0 HQ HQB HIN HCn HB56 hnn
      go_wp2_with fail
      refine HQ2.out.mono ?_
      rintro e w8 ⟨rfl, hb8⟩
      have HB8 := Lib.hid (bnext HB7.out hb8)
      clear hb8 hcn hin HQ2 hn
      go_wp2_with fail
      refine (HAW.out w8).mono ?_
      rintro e w9 ⟨rfl, hb9⟩
      have HE := Lib.hid (bnext HB3.out (bnext HB8.out hb9))
      go_wp2
      go_ret
      exact ⟨rfl, HE.out⟩
    have hq2 : (i : Int) < 3 := by omega
    have HBW := hbw
    clear hbw
    go_wp2_with fail
    refine (HVB.out wr HBW.out).mono ?_
    rintro e w4 ⟨v4, rfl, ho4, hb4⟩
    have hcn := VX.rCount v4 VB (201 + (i : Int)) w4 ho4.rdV
    rw [HTB.out] at hcn
    obtain ⟨a4, c4, hv4, _, _⟩ := ho4.rd.shape
    have HC4 := Lib.hid hcn
    have HB4 := Lib.hid (bnext HBW.out hb4)
    subst hv4
    clear ho4 hb4 hcn
    generalize VB.length = lvb at *
    go_wp2_with fail
    refine HC4.out.mono ?_
    rintro e w4' ⟨rfl, rfl⟩
    clear HC4
    have hd := HDB.out (201 + (i : Int))
    have hd2 := HDA.out (201 + (i : Int))
    have hps := HPS.out i
    have hp1 := HPB.out i
    have hp2 := HPB.out (i + 1)
    have HTA' := Lib.hid (HTA.out (201 + (i : Int)))
    generalize tb (201 + (i : Int)) = T at *
    generalize ta (201 + (i : Int)) = T' at *
    have h4 : (4 : Int) ^ (i + 1) ≤ 64 := by
      have : i = 0 ∨ i = 1 ∨ i = 2 := by omega
      rcases this with rfl | rfl | rfl <;> decide
    have h5 : (4 : Int) ^ i ≤ 64 := by
      have : i = 0 ∨ i = 1 ∨ i = 2 := by omega
      rcases this with rfl | rfl | rfl <;> decide
    have hp1 : 1 ≤ PR i ∧ PR i ≤ 64 := ⟨hp1.1, by omega⟩
    have hp2 : 1 ≤ PR (i + 1) ∧ PR (i + 1) ≤ 64 := ⟨hp2.1, by omega⟩
    have HNX := Lib.hid hps
    have HP2 := Lib.hid hp2
    have HD := Lib.hid (And.intro hd hd2)
    clear hps hp2 h4 h5
    generalize PR i = P at *
    go_wp2_with fail
    refine (HVA.out _ HB4.out).mono ?_
    rintro e w6 ⟨v6, rfl, ho6, hb6⟩
    have hcn := VX.rCount v6 VA (201 + (i : Int)) w6 ho6.rdV
    rw [HTA'.out] at hcn
    obtain ⟨a6, c6, hv6, _, _⟩ := ho6.rd.shape
    have HC6 := Lib.hid hcn
    have HB6 := Lib.hid (bnext HB4.out hb6)
    subst hv6
    clear ho6 hb6 hcn
    generalize VA.length = lva at *
    go_wp2_with fail
    refine HC6.out.mono ?_
    rintro e w6' ⟨rfl, rfl⟩
    clear HC6
    have hm : P * (1 + T - T') = PR (i + 1) := HNX.out.symm
    have hp2 := HP2.out
    have hlo : -9223372036854775808 ≤ P * (1 + T - T') := by rw [hm]; omega
    have hhi : P * (1 + T - T') ≤ 9223372036854775807 := by rw [hm]; omega
    go_wp2
    go_roundw
    case rel => exact ⟨i + 1, by omega, by go_num, by go_num, HB6⟩
    case measure => simp [intOf]; omega

end Go.Proofs.YthfpafnljnnndaaGreat

namespace Go.Proofs.YthfpafnljnnndaaGreat
open Go.RowKit Go.Joins Go.Shelf
open JM (Chg)
open CM (Fp)
open VM (Ent)

theorem ix_bd (n : Int) {k : Nat} (hk : 1 ≤ k) : ∃ j : Nat, ix n (k : Int) = (j : Int) ∧ j < k := by
  unfold ix
  have h1 := Int.emod_nonneg (n.tmod (k : Int)) (show (k : Int) ≠ 0 by omega)
  have h2 := Int.emod_lt_of_pos (n.tmod (k : Int)) (show (0 : Int) < (k : Int) by omega)
  exact ⟨(n.tmod (k : Int) % (k : Int)).toNat, by omega, by omega⟩
/-- Unions and meets of elements of an interval belong to it. -/
theorem IM.closed {fa fb f g : List Fp} (o1 : CM.Ok fa) (o2 : CM.Ok fb) (hf : f ∈ IM.all fa fb) (hg : g ∈ IM.all fa fb) :
    CM.Ok f ∧ CM.Ok g ∧ (CM.Ok (CM.un f g) ∧ (CM.cons (CM.un f g) fa && CM.cons fb (CM.un f g)) = true) ∧ (CM.Ok (CM.meetK f g) ∧ (CM.cons (CM.meetK f g) fa && CM.cons fb (CM.meetK f g)) = true) := by
  obtain ⟨of, f1, f2⟩ := IM.all_within o1 o2 f hf
  obtain ⟨og, g1, g2⟩ := IM.all_within o1 o2 g hg
  have ef := IM.rs_sub of o2 f2
  have eg := IM.rs_sub og o2 g2
  rw [← CM.meet_eq of og]
  rw [← ef, ← eg, CM.un_rs o2.srt, CM.meet_rs o2]
  rw [← ef] at f1
  rw [← eg] at g1
  refine ⟨o2.rs _, o2.rs _, ⟨o2.rs _, ?_⟩, o2.rs _, ?_⟩
  · rw [Bool.and_eq_true]
    refine ⟨CM.cons_iff.2 fun x hx => ?_, IM.cons_part _ _⟩
    obtain ⟨a, b⟩ := CM.rs_mem.1 (CM.cons_iff.1 f1 x hx)
    exact CM.rs_mem.2 ⟨a, by omega⟩
  · rw [Bool.and_eq_true]
    refine ⟨CM.cons_iff.2 fun x hx => ?_, IM.cons_part _ _⟩
    obtain ⟨a, b⟩ := CM.rs_mem.1 (CM.cons_iff.1 f1 x hx)
    obtain ⟨_, c⟩ := CM.rs_mem.1 (CM.cons_iff.1 g1 x hx)
    exact CM.rs_mem.2 ⟨a, by omega⟩

set_option maxRecDepth 100000 in
set_option maxHeartbeats 4000000 in
theorem lIntervalClosed (v : Value) (l : List Int) (x y i k : Int) (w : World) (h : RdI w v l) (hl : l.length ≤ 4611686018427387904) :
    Calls Tryz.prog 7 #[v, .int .i64 x, .int .i64 y, .int .i64 i, .int .i64 k] w fun e w' => e = .returned (.bool true) ∧ Below w.heap.size w w' := by
  have HP := Lib.hid (kPool v l w h hl)
  have HAW := Lib.hid (fun w => cAwake9 w)
  obtain ⟨ad, cp, rfl, _, _⟩ := h.shape
  clear h hl
  go_enter Tryz.func7, Tryz.ntmps7
  go_wp2_with fail
  refine HP.out.mono ?_
  rintro e w1 ⟨u, p, rfl, hr1, hok, hb1⟩
  have HOK := Lib.hid hok
  have HPT := Lib.hid (kPart u p y w1 hr1 (by have := hok.nine; omega))
  obtain ⟨ua, uc, hu, _, _⟩ := hr1.shape
  subst hu
  generalize p.length = pl at *
  have HB1 := Lib.hid hb1
  clear hr1 hok hb1 HP
  go_wp2_with fail
  refine HPT.out.mono ?_
  rintro e w2 ⟨u2, g2, rfl, hr2, hb2⟩
  have o2 := HOK.out.rs g2
  have HPF := Lib.hid (kPart u2 _ x w2 hr2 (by have := o2.nine; omega))
  obtain ⟨a2, c2, hu2, _, _⟩ := hr2.shape
  have HFB := Lib.hid hr2
  have HB2 := Lib.hid (bnext HB1.out hb2)
  have HO2 := Lib.hid o2
  subst hu2
  clear hr2 hb2 HPT o2 HOK HB1
  generalize CM.rs p g2 = fb at *
  generalize fb.length = lb at *
  go_wp2_with fail
  refine HPF.out.mono ?_
  rintro e w3 ⟨u3, g3, rfl, hr3, hb3⟩
  obtain ⟨a3, c3, hu3, _, _⟩ := hr3.shape
  have h1 := hr3
  have h2 := HFB.out.below hb3
  have HB3 := Lib.hid (bnext HB2.out hb3)
  subst hu3
  have o1 := HO2.out.rs g3
  have o2 := HO2.out
  have hc := IM.cons_part fb g3
  have HCA := Lib.hid (cAll _ _ _ _ w3 h1 h2 o1 o2)
  have HWI := Lib.hid (fun vx fx w' (hb : Below w3.heap.size w3 w') (hx : RdF w' vx fx) (ox : CM.Ok fx) => cWithin _ _ _ _ _ fx w' (h1.below hb) (h2.below hb) hx o1 o2 ox)
  have HCL := Lib.hid (fun f g hf hg => IM.closed (f := f) (g := g) o1 o2 hf hg)
  have hne : 1 ≤ (IM.all (CM.rs fb g3) fb).length := by have := IM.prd_len o1 o2 hc; have := (IM.prd_bd o1 o2 hc 3).1; omega
  have hl9 : (IM.all (CM.rs fb g3) fb).length ≤ 1000 := by rw [IM.iv_len]; exact (IM.iv_ok o1 o2).2
  clear hr3 hb3 h1 h2 o1 o2 hc HFB HB2 HPF HO2
  generalize CM.rs fb g3 = fa at *
  generalize fa.length = la at *
  go_wp2_with fail
  refine HCA.out.mono ?_
  rintro e w4 ⟨v4, rfl, hr4, hb4⟩
  have hr4 := hr4.rd.imp (fun u x h => h.rd)
  obtain ⟨a4, c4, hv4, _, _⟩ := hr4.shape
  generalize IM.all fa fb = L at *
  have HR4 := Lib.hid hr4
  have HB4 := Lib.hid hb4
  subst hv4
  obtain ⟨ji, hji, hjl⟩ := ix_bd i hne
  obtain ⟨jk, hjk, hkl⟩ := ix_bd k hne
  obtain ⟨bi, oi, adi, li, cpi, hii, hbi, hci, hri⟩ := hr4.at_ cfgE ji _ (List.getElem?_eq_getElem hjl)
  obtain ⟨bk, ok, adk, lk, cpk, hik, hbk, hck, hrk⟩ := hr4.at_ cfgE jk _ (List.getElem?_eq_getElem hkl)
  obtain ⟨of, og, ⟨o3, c3'⟩, o4, c4'⟩ := HCL.out _ _ (List.getElem_mem hjl) (List.getElem_mem hkl)
  generalize L[ji] = f at *
  generalize L[jk] = g at *
  have HXI := Lib.hid (fun w => kIndex i (L.length : Int) w (by omega) (by omega))
  have HXK := Lib.hid (fun w => kIndex k (L.length : Int) w (by omega) (by omega))
  rw [hji] at HXI
  rw [hjk] at HXK
  have hln : ((L.length : Int) == 0) = false := beq_eq_false_iff_ne.2 (by omega)
  have HII := Lib.hid hii
  have HIK := Lib.hid hik
  have HCI := Lib.hid hci
  have HCK := Lib.hid hck
  have HRU := Lib.hid (fun w' (hb : Below w4.heap.size w4 w') => rUnion _ _ f g w' (hri.below hb) (hrk.below hb) (by have := of.nine; omega) (by have := og.nine; omega))
  have HRM := Lib.hid (fun w' (hb : Below w4.heap.size w4 w') => rMeet _ _ f g w' (hri.below hb) (hrk.below hb) (by have := of.nine; omega))
  have hwu := fun vx w' (hb : Below w4.heap.size w4 w') (hx : RdF w' vx (CM.un f g)) => HWI.out vx _ w' (bnext hb4 hb) hx o3
  have hwm := fun vx w' (hb : Below w4.heap.size w4 w') (hx : RdF w' vx (CM.meetK f g)) => HWI.out vx _ w' (bnext hb4 hb) hx o4
  rw [c3'] at hwu
  rw [c4'] at hwm
  have HWU := Lib.hid hwu
  have HWM := Lib.hid hwm
  clear hr4 hb4 HCA HR4 HCL hji hjk hii hik hci hck hri hrk of og o3 o4 c3' c4' hwu hwm hne hl9 hjl hkl HWI hbi hbk
  generalize L.length = ll at *
  go_wp2
  clear hln
  refine wp_region_held_drew (S := fun w' => Below w4.heap.size w4 w') (by kernel_rfl) ((Below.refl _ _).drew) (fun ha => ?_)
  replace ha : Below w4.heap.size w4 w4.drew := (Below.refl _ _).drew
  generalize w4.drew = wa at ha ⊢
  refine takeH (i := 0) (v := ?_) rfl (by kernel_rfl) (by kernel_rfl) (by kernel_rfl) (fun _ _ _ h => h) (Or.inl ⟨by rfl, ?_⟩) (by assumption) ?_
  rotate_left
  · (intro w hSw; (try dsimp only at hSw); go_simp; first | done | with_reducible rfl)
  (try simp only [Act.put, List.setIfInBounds_toArray, List.set_cons_zero, List.set_cons_succ])
  refine takeH (i := 1) (v := ?_) rfl (by kernel_rfl) (by kernel_rfl) (by kernel_rfl) (fun _ _ _ h => h) (Or.inl ⟨by rfl, ?_⟩) (by assumption) ?_
  rotate_left
  · (intro w hSw; (try dsimp only at hSw); go_simp; first | done | with_reducible rfl)
  (try simp only [Act.put, List.setIfInBounds_toArray, List.set_cons_zero, List.set_cons_succ])
  refine takeH (i := 2) (v := ?_) rfl (by kernel_rfl) (by kernel_rfl) (by kernel_rfl) (fun _ _ _ h => h) (Or.inl ⟨by rfl, ?_⟩) (by assumption) ?_
  rotate_left
  · (intro w hSw; (try dsimp only at hSw); go_simp; first | done | with_reducible rfl)
  (try simp only [Act.put, List.setIfInBounds_toArray, List.set_cons_zero, List.set_cons_succ])
  refine takeH (i := 3) (v := ?_) rfl (by kernel_rfl) (by kernel_rfl) (by kernel_rfl) (fun _ _ _ h => h) (Or.inl ⟨by rfl, ?_⟩) (by assumption) ?_
  rotate_left
  · (intro w hSw; (try dsimp only at hSw); go_simp; first | done | with_reducible rfl)
  (try simp only [Act.put, List.setIfInBounds_toArray, List.set_cons_zero, List.set_cons_succ])
  refine takeH (i := 7) (v := ?_) rfl (by kernel_rfl) (by kernel_rfl) (by kernel_rfl) (fun _ _ _ h => h) (Or.inl ⟨by rfl, ?_⟩) (by assumption) ?_
  rotate_left
  · (intro w hSw; (try dsimp only at hSw); go_simp; first | done | with_reducible rfl)
  (try simp only [Act.put, List.setIfInBounds_toArray, List.set_cons_zero, List.set_cons_succ])
  refine takeH (i := 8) (v := ?_) rfl (by kernel_rfl) (by kernel_rfl) (by kernel_rfl) (fun _ _ _ h => h) (Or.inl ⟨by rfl, ?_⟩) (by assumption) ?_
  rotate_left
  · (intro w hSw; (try dsimp only at hSw); go_simp; first | done | with_reducible rfl)
  (try simp only [Act.put, List.setIfInBounds_toArray, List.set_cons_zero, List.set_cons_succ])
  refine takeH (i := 9) (v := ?_) rfl (by kernel_rfl) (by kernel_rfl) (by kernel_rfl) (fun _ _ _ h => h) (Or.inl ⟨by rfl, ?_⟩) (by assumption) ?_
  rotate_left
  · (intro w hSw; (try dsimp only at hSw); go_simp; first | done | with_reducible rfl)
  (try simp only [Act.put, List.setIfInBounds_toArray, List.set_cons_zero, List.set_cons_succ])
  refine takeH (i := 10) (v := ?_) rfl (by kernel_rfl) (by kernel_rfl) (by kernel_rfl) (fun _ _ _ h => h) (Or.inl ⟨by rfl, ?_⟩) (by assumption) ?_
  rotate_left
  · (intro w hSw; (try dsimp only at hSw); go_simp; first | done | with_reducible rfl)
  (try simp only [Act.put, List.setIfInBounds_toArray, List.set_cons_zero, List.set_cons_succ])
  refine wpAnyH_ready (rs := [4]) (by kernel_rfl) (by simp) ?_
  refine stepH rfl (fun K hK => ?_) AllReadyH.nil
  go_simp
  refine (HXI.out wa).mono ?_
  rintro e wb ⟨rfl, rfl⟩
  go_wp2_with fail
  refine hK.out _ _ (ha) (fun _ => ?_)
  clear hK K
  (try simp only [Act.put, List.setIfInBounds_toArray, List.set_cons_zero, List.set_cons_succ])
  refine takeH (i := 5) (v := ?_) rfl (by kernel_rfl) (by kernel_rfl) (by kernel_rfl) (fun _ _ _ h => h) (Or.inl ⟨by rfl, ?_⟩) (by assumption) ?_
  rotate_left
  · (intro w hSw; (try dsimp only at hSw); have hii := HII.out; go_simp; first | done | with_reducible rfl)
  (try simp only [Act.put, List.setIfInBounds_toArray, List.set_cons_zero, List.set_cons_succ])
  refine takeH (i := 6) (v := ?_) rfl (by kernel_rfl) (by kernel_rfl) (by kernel_rfl) (fun _ _ _ h => h) (Or.inl ⟨by rfl, ?_⟩) (by assumption) ?_
  rotate_left
  · (intro w hSw; (try dsimp only at hSw); have hci := below_cell hSw HCI.out; go_simp; first | done | with_reducible rfl)
  (try simp only [Act.put, List.setIfInBounds_toArray, List.set_cons_zero, List.set_cons_succ])
  refine wpAnyH_ready (rs := [11]) (by kernel_rfl) (by simp) ?_
  refine stepH rfl (fun K hK => ?_) AllReadyH.nil
  go_simp
  refine (HXK.out wa).mono ?_
  rintro e wb ⟨rfl, rfl⟩
  go_wp2_with fail
  refine hK.out _ _ (ha) (fun _ => ?_)
  clear hK K
  (try simp only [Act.put, List.setIfInBounds_toArray, List.set_cons_zero, List.set_cons_succ])
  refine takeH (i := 12) (v := ?_) rfl (by kernel_rfl) (by kernel_rfl) (by kernel_rfl) (fun _ _ _ h => h) (Or.inl ⟨by rfl, ?_⟩) (by assumption) ?_
  rotate_left
  · (intro w hSw; (try dsimp only at hSw); have hik := HIK.out; go_simp; first | done | with_reducible rfl)
  (try simp only [Act.put, List.setIfInBounds_toArray, List.set_cons_zero, List.set_cons_succ])
  refine takeH (i := 13) (v := ?_) rfl (by kernel_rfl) (by kernel_rfl) (by kernel_rfl) (fun _ _ _ h => h) (Or.inl ⟨by rfl, ?_⟩) (by assumption) ?_
  rotate_left
  · (intro w hSw; (try dsimp only at hSw); have hck := below_cell hSw HCK.out; go_simp; first | done | with_reducible rfl)
  (try simp only [Act.put, List.setIfInBounds_toArray, List.set_cons_zero, List.set_cons_succ])
  refine takeH (i := 14) (v := ?_) rfl (by kernel_rfl) (by kernel_rfl) (by kernel_rfl) (fun _ _ _ h => h) (Or.inl ⟨by rfl, ?_⟩) (by assumption) ?_
  rotate_left
  · (intro w hSw; (try dsimp only at hSw); go_simp; first | done | with_reducible rfl)
  (try simp only [Act.put, List.setIfInBounds_toArray, List.set_cons_zero, List.set_cons_succ])
  refine takeH (i := 15) (v := ?_) rfl (by kernel_rfl) (by kernel_rfl) (by kernel_rfl) (fun _ _ _ h => h) (Or.inl ⟨by rfl, ?_⟩) (by assumption) ?_
  rotate_left
  · (intro w hSw; (try dsimp only at hSw); go_simp; first | done | with_reducible rfl)
  (try simp only [Act.put, List.setIfInBounds_toArray, List.set_cons_zero, List.set_cons_succ])
  refine wpAnyH_done (by kernel_rfl) ?_ _
  have HBA := Lib.hid ha
  clear ha HXI HXK HII HIK HCI HCK
  go_wp2_with fail
  refine (HRU.out wa HBA.out).mono ?_
  rintro e w5 ⟨v5, rfl, hr5, hb5⟩
  obtain ⟨a5, c5, hv5, _, _⟩ := hr5.shape
  have HB5 := Lib.hid (bnext HBA.out hb5)
  have HW5 := Lib.hid (HWU.out v5 w5 HB5.out hr5)
  subst hv5
  clear hr5 hb5 HRU HWU
  generalize (CM.un f g).length = l5 at *
  go_wp2_with fail
  refine HW5.out.mono ?_
  rintro e w6 ⟨rfl, hb6⟩
  have HB6 := Lib.hid (bnext HB5.out hb6)
  clear hb6 HW5 HB5
  go_wp2_with fail
  refine (HRM.out w6 HB6.out).mono ?_
  rintro e w7 ⟨v7, rfl, hr7, hb7⟩
  obtain ⟨a7, c7, hv7, _, _⟩ := hr7.shape
  have HB7 := Lib.hid (bnext HB6.out hb7)
  have HW7 := Lib.hid (HWM.out v7 w7 HB7.out hr7)
  subst hv7
  clear hr7 hb7 HRM HWM HB6
  generalize (CM.meetK f g).length = l7 at *
  go_wp2_with fail
  refine HW7.out.mono ?_
  rintro e w8 ⟨rfl, hb8⟩
  have HB8 := Lib.hid (bnext HB7.out hb8)
  clear hb8 HW7 HB7
  go_wp2_with fail
  refine (HAW.out w8).mono ?_
  rintro e w9 ⟨rfl, hb9⟩
  have HE := Lib.hid (bnext HB3.out (bnext HB4.out (bnext HB8.out hb9)))
  go_wp2
  go_ret
  exact ⟨rfl, HE.out⟩

end Go.Proofs.YthfpafnljnnndaaGreat
