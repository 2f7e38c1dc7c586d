/-
  The calls of interval.allValid and interval.Within, and of the reference's Within, at valid configurations.
-/
import Derived.Test.YtkgkhofkhjgnbaaGreatILs
namespace Go.Proofs.YtkgkhofkhjgnbaaGreat
open Go.RowKit Go.Joins Go.Shelf
open JM (Chg)
open CM (Fp)
open VM (Ent)

theorem iVal1 (v : Value) (fs : List Fp) (w : World) (h : RdF w v fs) (ho : CM.Ok fs) :
    Calls Tryz.prog 102 #[v] w fun e w' => e = .returned (.bool false) ∧ Below w.heap.size w w' := by
  have hv := gValidate v fs w h
  rw [show CM.errL (0, 0) fs = 0 from ho] at hv
  have HV := Lib.hid hv
  obtain ⟨a, c, rfl, _, _⟩ := h.shape
  clear h ho hv
  go_enter Tryz.func102, Tryz.ntmps102
  go_wp2_with fail
  refine HV.out.mono ?_
  rintro e w1 ⟨rfl, hb⟩
  go_wp2
  go_ret
  exact ⟨rfl, hb⟩

set_option maxRecDepth 100000 in
set_option maxHeartbeats 1000000 in
theorem iIndex (v : Value) (ls : List (List Fp)) (w : World) (h : RdLs RdF w v ls) (ho : ∀ f ∈ ls, CM.Ok f) :
    Calls Tryz.prog 130 #[v, .func (.func 102) #[] #[]] w fun e w' => e = .returned (.int .i64 (-1)) ∧ Below w.heap.size w w' := by
  have eF := enters_of Tryz.func102 (by kernel_rfl) rfl
  obtain ⟨ad, c, rfl, hc, hl⟩ := h.shape
  have HX := Lib.hid h
  have HO := Lib.hid ho
  clear h ho
  go_enter Tryz.func130, Tryz.ntmps130
  go_wp2
  go_loopw [8] (fun i wr => ∃ j : Nat, j ≤ ls.length ∧ i = .int .i64 j ∧ Below w.heap.size w wr) (fun i _ => ls.length - (intOf i).toNat)
  case atStart => exact ⟨0, Nat.zero_le _, rfl, Below.refl _ _⟩
  case round =>
    obtain ⟨j, hk, rfl, hbl⟩ := hrel
    by_cases hlt : j < ls.length
    · have hq : (j : Int) < (ls.length : Int) := by omega
      have hat := List.getElem?_eq_getElem hlt
      generalize ls[j] = f at hat
      obtain ⟨b, o, ad2, l2, c2, hi, hb, d0, hrd⟩ := (HX.out.below hbl (fun u x h => h.below hbl)).at_ cfgE j f hat
      have hS := Lib.hid (iVal1 _ f wr hrd (HO.out f (List.mem_of_getElem? hat)))
      clear hat hrd
      go_wp2_with (go_at_call 102; refine hS.out.mono ?_; rintro e w4 ⟨rfl, h4⟩)
      go_roundw
      case rel => exact ⟨j + 1, by omega, by go_num, bnext hbl h4⟩
      case measure => simp [intOf]; omega
    · have hq : ¬ ((j : Int) < (ls.length : Int)) := by omega
      go_wp2
      go_ret
      exact ⟨rfl, hbl⟩

set_option maxHeartbeats 1000000 in
theorem iContains (v : Value) (ls : List (List Fp)) (w : World) (h : RdLs RdF w v ls) (ho : ∀ f ∈ ls, CM.Ok f) :
    Calls Tryz.prog 101 #[v, .func (.func 102) #[] #[]] w fun e w' => e = .returned (.bool false) ∧ Below w.heap.size w w' := by
  have HI := Lib.hid (iIndex v ls w h ho)
  clear h ho
  go_enter Tryz.func101, Tryz.ntmps101
  go_wp2_with fail
  refine HI.out.mono ?_
  rintro e w1 ⟨rfl, hb⟩
  go_wp2
  go_ret
  exact ⟨rfl, hb⟩

set_option maxHeartbeats 1000000 in
theorem iAllValid (v : Value) (ls : List (List Fp)) (w : World) (h : RdLs RdF w v ls) (ho : ∀ f ∈ ls, CM.Ok f) :
    Calls Tryz.prog 80 #[v] w fun e w' => e = .returned (.bool true) ∧ Below w.heap.size w w' := by
  have hmf : ∀ (fn : Fn) (first cap : Array Value) (w : World), (Instr.makeFunc fn first cap).run Tryz.prog w = .ok (.func fn first cap) w := fun _ _ _ _ => rfl
  have HI := Lib.hid (iContains v ls w h ho)
  clear h ho
  go_enter Tryz.func80, Tryz.ntmps80
  go_wp2_with fail
  refine HI.out.mono ?_
  rintro e w1 ⟨rfl, hb⟩
  go_wp2
  go_ret
  exact ⟨rfl, hb⟩

theorem iThree (w : World) (a b c : Option Addr) (la ca lb cb lc cc : Nat) (fa fb fc : List Fp) (h1 : RdF w (.slice a la ca) fa) (h2 : RdF w (.slice b lb cb) fb) (h3 : RdF w (.slice c lc cc) fc) :
    RdLs RdF (w.alloc (.cells #[.slice a la ca, .slice b lb cb, .slice c lc cc] 24)) (.slice (some ⟨w.heap.size, 0, none⟩) 3 3) [fa, fb, fc] := by
  have hb := below_fresh w (.cells #[.slice a la ca, .slice b lb cb, .slice c lc cc] 24)
  refine ⟨[((a, la, ca), fa), ((b, lb, cb), fb), ((c, lc, cc), fc)], (ownG_fresh hlL 24 w [((a, la, ca), fa), ((b, lb, cb), fb), ((c, lc, cc), fc)] (by unfold maxLen; simp)).rd, ?_, rfl⟩
  intro p hp
  simp only [List.mem_cons, List.mem_nil_iff, or_false] at hp
  rcases hp with rfl | rfl | rfl
  · exact h1.below hb
  · exact h2.below hb
  · exact h3.below hb

set_option maxRecDepth 100000 in
set_option maxHeartbeats 2000000 in
theorem cWithin (va vb vc : Value) (fa fb fc : List Fp) (w : World) (h1 : RdF w va fa) (h2 : RdF w vb fb) (h3 : RdF w vc fc) (o1 : CM.Ok fa) (o2 : CM.Ok fb) (o3 : CM.Ok fc) :
    Calls Tryz.prog 63 #[va, vb, vc] w fun e w' => e = .returned (.bool (CM.cons fc fa && CM.cons fb fc)) ∧ Below w.heap.size w w' := by
  obtain ⟨a, ca, rfl, _, _⟩ := h1.shape
  obtain ⟨b, cb, rfl, _, _⟩ := h2.shape
  obtain ⟨c, cc, rfl, _, _⟩ := h3.shape
  have H3 := iThree w a b c _ ca _ cb _ cc fa fb fc h1 h2 h3
  have hb0 := below_fresh w (.cells #[.slice a fa.length ca, .slice b fb.length cb, .slice c fc.length cc] 24)
  obtain ⟨w1, hw1⟩ : ∃ w1, w.alloc (.cells #[.slice a fa.length ca, .slice b fb.length cb, .slice c fc.length cc] 24) = w1 := ⟨_, rfl⟩
  rw [hw1] at H3 hb0
  have HV := Lib.hid (iAllValid _ _ w1 H3 (by intro f hf; simp only [List.mem_cons, List.mem_nil_iff, or_false] at hf; rcases hf with rfl | rfl | rfl <;> assumption))
  have HC1 := Lib.hid (fun w' (hb : Below w.heap.size w w') => gContains _ _ fc fa w' (h3.below hb) (h1.below hb) o3.srt (by have := o3.nine; omega))
  have HC2 := Lib.hid (fun w' (hb : Below w.heap.size w w') => gContains _ _ fb fc w' (h2.below hb) (h3.below hb) o2.srt (by have := o2.nine; omega))
  have HB := Lib.hid hb0
  have HW := Lib.hid hw1
  generalize CM.cons fc fa = B1 at *
  generalize CM.cons fb fc = B2 at *
  clear H3 h1 h2 h3 o1 o2 o3 hb0 hw1
  generalize fa.length = la at *
  generalize fb.length = lb at *
  generalize fc.length = lc at *
  go_enter Tryz.func63, Tryz.ntmps63
  go_wp2_with fail
  rw [HW.out]
  refine HV.out.mono ?_
  rintro e w2 ⟨rfl, hb2⟩
  replace HB := Lib.hid (bnext HB.out hb2)
  clear hb2 HV HW
  go_wp2_with fail
  refine (HC1.out _ HB.out).mono ?_
  rintro e w3 ⟨rfl, hb3⟩
  replace HB := Lib.hid (bnext HB.out hb3)
  clear hb3 HC1
  cases B1
  · clear HC2
    go_wp2
    go_ret
    exact ⟨rfl, HB.out⟩
  · go_wp2_with fail
    refine (HC2.out _ HB.out).mono ?_
    rintro e w4 ⟨rfl, hb4⟩
    go_wp2
    go_ret
    exact ⟨rfl, bnext HB.out hb4⟩

end Go.Proofs.YtkgkhofkhjgnbaaGreat
