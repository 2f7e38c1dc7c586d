/-
  Lists of slices in memory: lists of vectors, of configurations. What reads as one, what is the call's own, an index. No conditions beyond those that each lemma names.
  The calls of interval.allValid and interval.Within, and of the reference's Within, at valid configurations.
  The call of interval.vectors at valid configurations: the vectors between the two, in their order.
  The call of interval.All at valid configurations: the parts of the greater one, by the vectors in their order.
-/
import Derived.Test.YthfpafnljnnndaaGreatSIClone
import Derived.Test.YthfpafnljnnndaaGreatSV
namespace Go.Proofs.YthfpafnljnnndaaGreat
open Go.RowKit
open JM (Chg)
open CM (Fp)
open VM (Ent)

abbrev SV := Option Addr × Nat × Nat
def svV (s : SV) : Value := .slice s.1 s.2.1 s.2.2
def encL {β : Type} (p : SV × β) : List Value := [svV p.1]
theorem hlL {β : Type} : 0 < 1 ∧ ∀ x : SV × β, (encL x).length = 1 := ⟨by decide, fun _ => rfl⟩
theorem cfgE {β : Type} : IsElem Tryz.prog 25 23 1 24 (encL (β := β)) where
  ht := Tryz.underlying25
  info := by
    obtain ⟨i0, hi, hz0, hz1, hz2⟩ := info_parts (show (Tryz.prog.info? 23).map (fun i => (i.zero, i.size, i.bytes)) = some (some (.slice none 0 0), 1, 24) by kernel_rfl)
    exact ⟨i0, _, hi, hz0, hz1, hz2, rfl⟩
  len := fun _ => rfl
  one := by intro x u hu; simp [encL] at hu; subst hu; rfl
  pos := by decide
  fits := by decide
theorem vecE {β : Type} : IsElem Tryz.prog 74 54 1 24 (encL (β := β)) where
  ht := Tryz.underlying74
  info := by
    obtain ⟨i0, hi, hz0, hz1, hz2⟩ := info_parts (show (Tryz.prog.info? 54).map (fun i => (i.zero, i.size, i.bytes)) = some (some (.slice none 0 0), 1, 24) by kernel_rfl)
    exact ⟨i0, _, hi, hz0, hz1, hz2, rfl⟩
  len := fun _ => rfl
  one := by intro x u hu; simp [encL] at hu; subst hu; rfl
  pos := by decide
  fits := by decide

/-- The slice value v reads as a list of slices, which read as ls, each in the way R. -/
def RdLs {β : Type} (R : World → Value → β → Prop) (w : World) (v : Value) (ls : List β) : Prop := ∃ ps : List (SV × β), RdG encL 1 w v ps ∧ (∀ p ∈ ps, R w (svV p.1) p.2) ∧ ps.map (·.2) = ls
/-- The same of a list of the call's own, with elements of type e. -/
def OwnLs {β : Type} (R : World → Value → β → Prop) (e : TypeId) (base : Nat) (w : World) (v : Value) (ls : List β) : Prop := ∃ ps : List (SV × β), OwnG encL e 1 base w v ps ∧ (∀ p ∈ ps, R w (svV p.1) p.2) ∧ ps.map (·.2) = ls
section
variable {β : Type} {R S : World → Value → β → Prop} {e : TypeId} {base : Nat} {w w' : World} {v : Value} {ls : List β}
theorem OwnLs.rd (h : OwnLs R e base w v ls) : RdLs R w v ls := by
  obtain ⟨ps, h1, h2, h3⟩ := h; exact ⟨ps, h1.rd, h2, h3⟩
theorem RdLs.imp (h : RdLs R w v ls) (hi : ∀ u x, R w u x → S w u x) : RdLs S w v ls := by
  obtain ⟨ps, h1, h2, h3⟩ := h; exact ⟨ps, h1, fun p hp => hi _ _ (h2 p hp), h3⟩
theorem OwnLs.below (h : OwnLs R e base w v ls) (hb : Below w.heap.size w w') (hR : ∀ u x, R w u x → R w' u x) : OwnLs R e base w' v ls := by
  obtain ⟨ps, h1, h2, h3⟩ := h; exact ⟨ps, h1.below hb, fun p hp => hR _ _ (h2 p hp), h3⟩
theorem RdLs.below (h : RdLs R w v ls) (hb : Below w.heap.size w w') (hR : ∀ u x, R w u x → R w' u x) : RdLs R w' v ls := by
  obtain ⟨ps, h1, h2, h3⟩ := h; exact ⟨ps, h1.below hb, fun p hp => hR _ _ (h2 p hp), h3⟩
theorem RdLs.shape (h : RdLs R w v ls) : ∃ a c, v = .slice a ls.length c ∧ c ≤ 9223372036854775807 ∧ ls.length ≤ c := by
  obtain ⟨ps, h1, _, rfl⟩ := h
  simpa using h1.shape
theorem OwnLs.nil (e : TypeId) (base : Nat) (w : World) : OwnLs R e base w (.slice none 0 0) [] := ⟨[], OwnG.nil hlL _ _ _, (fun _ h => by cases h), rfl⟩
theorem OwnLs.mono {b2 : Nat} (h : OwnLs R e base w v ls) (hle : b2 ≤ base) : OwnLs R e b2 w v ls := by
  obtain ⟨ps, h1, h2, h3⟩ := h; exact ⟨ps, h1.mono hle, h2, h3⟩
theorem OwnLs.snoc {w2 : World} {ps : List (SV × β)} {p : SV × β} {v2 : Value} (h2 : ∀ p ∈ ps, R w (svV p.1) p.2) (h3 : ps.map (·.2) = ls) (ho : OwnG encL e 1 base w2 v2 (ps ++ [p])) (hR : ∀ u x, R w u x → R w2 u x) (hp : R w2 (svV p.1) p.2) : OwnLs R e base w2 v2 (ls ++ [p.2]) :=
  ⟨ps ++ [p], ho, fun q hq => (List.mem_append.1 hq).elim (fun h => hR _ _ (h2 q h)) (fun h => by rw [List.mem_singleton] at h; subst h; exact hp), by rw [List.map_append, h3]; rfl⟩
theorem RdLs.at_ {t : TypeId} (E : IsElem Tryz.prog t e 1 24 (encL (β := β))) {a : Option Addr} {n c : Nat} (h : RdLs R w (.slice a n c) ls) (k : Nat) (x : β) (hk : ls[k]? = some x) :
    ∃ b o ad l cp, (∀ w0, (Instr.indexAt t (.slice a n c) (.int .i64 (k : Int))).run Tryz.prog w0 = .ok (.pointer (some ⟨b, o, none⟩)) w0) ∧ b < w.heap.size ∧ w.cell? ⟨b, o, none⟩ = some (.slice ad l cp) ∧ R w (.slice ad l cp) x := by
  obtain ⟨ps, h1, h2, rfl⟩ := h
  rw [List.getElem?_map] at hk
  obtain ⟨p, hp, hx⟩ := Option.map_eq_some_iff.1 hk
  subst hx
  obtain ⟨b, o, h3, h4, h5⟩ := h1.at_ E k p hp
  exact ⟨b, o, p.1.1, p.1.2.1, p.1.2.2, h3, h4, h5 0 _ rfl, h2 p (List.mem_of_getElem? hp)⟩
end
end Go.Proofs.YthfpafnljnnndaaGreat

namespace Go.Proofs.YthfpafnljnnndaaGreat
open Go.RowKit Go.Joins Go.Shelf
open JM (Chg)
open CM (Fp)
open VM (Ent)

theorem iVal1 (v : Value) (fs : List Fp) (w : World) (h : RdF w v fs) (ho : CM.Ok fs) :
    Calls Tryz.prog 66 #[v] w fun e w' => e = .returned (.bool false) ∧ Below w.heap.size w w' := by
  have hv := gValidate v fs w h
  rw [show CM.errL (0, 0) fs = 0 from ho] at hv
  have HV := Lib.hid hv
  obtain ⟨a, c, rfl, _, _⟩ := h.shape
  clear h ho hv
  go_enter Tryz.func66, Tryz.ntmps66
  go_wp2_with fail
  refine HV.out.mono ?_
  rintro e w1 ⟨rfl, hb⟩
  go_wp2
  go_ret
  exact ⟨rfl, hb⟩

set_option maxRecDepth 100000 in
set_option maxHeartbeats 1000000 in
theorem iIndex (v : Value) (ls : List (List Fp)) (w : World) (h : RdLs RdF w v ls) (ho : ∀ f ∈ ls, CM.Ok f) :
    Calls Tryz.prog 99 #[v, .func (.func 66) #[] #[]] w fun e w' => e = .returned (.int .i64 (-1)) ∧ Below w.heap.size w w' := by
  have eF := enters_of Tryz.func66 (by kernel_rfl) rfl
  obtain ⟨ad, c, rfl, hc, hl⟩ := h.shape
  have HX := Lib.hid h
  have HO := Lib.hid ho
  clear h ho
  go_enter Tryz.func99, Tryz.ntmps99
  go_wp2
  go_loopw [8] (fun i wr => ∃ j : Nat, j ≤ ls.length ∧ i = .int .i64 j ∧ Below w.heap.size w wr) (fun i _ => ls.length - (intOf i).toNat)
  case atStart => exact ⟨0, Nat.zero_le _, rfl, Below.refl _ _⟩
  case round =>
    obtain ⟨j, hk, rfl, hbl⟩ := hrel
    by_cases hlt : j < ls.length
    · have hq : (j : Int) < (ls.length : Int) := by omega
      have hat := List.getElem?_eq_getElem hlt
      generalize ls[j] = f at hat
      obtain ⟨b, o, ad2, l2, c2, hi, hb, d0, hrd⟩ := (HX.out.below hbl (fun u x h => h.below hbl)).at_ cfgE j f hat
      have hS := Lib.hid (iVal1 _ f wr hrd (HO.out f (List.mem_of_getElem? hat)))
      clear hat hrd
      go_wp2_with (go_at_call 66; refine hS.out.mono ?_; rintro e w4 ⟨rfl, h4⟩)
      go_roundw
      case rel => exact ⟨j + 1, by omega, by go_num, bnext hbl h4⟩
      case measure => simp [intOf]; omega
    · have hq : ¬ ((j : Int) < (ls.length : Int)) := by omega
      go_wp2
      go_ret
      exact ⟨rfl, hbl⟩

set_option maxHeartbeats 1000000 in
theorem iContains (v : Value) (ls : List (List Fp)) (w : World) (h : RdLs RdF w v ls) (ho : ∀ f ∈ ls, CM.Ok f) :
    Calls Tryz.prog 65 #[v, .func (.func 66) #[] #[]] w fun e w' => e = .returned (.bool false) ∧ Below w.heap.size w w' := by
  have HI := Lib.hid (iIndex v ls w h ho)
  clear h ho
  go_enter Tryz.func65, Tryz.ntmps65
  go_wp2_with fail
  refine HI.out.mono ?_
  rintro e w1 ⟨rfl, hb⟩
  go_wp2
  go_ret
  exact ⟨rfl, hb⟩

set_option maxHeartbeats 1000000 in
theorem iAllValid (v : Value) (ls : List (List Fp)) (w : World) (h : RdLs RdF w v ls) (ho : ∀ f ∈ ls, CM.Ok f) :
    Calls Tryz.prog 43 #[v] w fun e w' => e = .returned (.bool true) ∧ Below w.heap.size w w' := by
  have hmf : ∀ (fn : Fn) (first cap : Array Value) (w : World), (Instr.makeFunc fn first cap).run Tryz.prog w = .ok (.func fn first cap) w := fun _ _ _ _ => rfl
  have HI := Lib.hid (iContains v ls w h ho)
  clear h ho
  go_enter Tryz.func43, Tryz.ntmps43
  go_wp2_with fail
  refine HI.out.mono ?_
  rintro e w1 ⟨rfl, hb⟩
  go_wp2
  go_ret
  exact ⟨rfl, hb⟩

theorem iThree (w : World) (a b c : Option Addr) (la ca lb cb lc cc : Nat) (fa fb fc : List Fp) (h1 : RdF w (.slice a la ca) fa) (h2 : RdF w (.slice b lb cb) fb) (h3 : RdF w (.slice c lc cc) fc) :
    RdLs RdF (w.alloc (.cells #[.slice a la ca, .slice b lb cb, .slice c lc cc] 23)) (.slice (some ⟨w.heap.size, 0, none⟩) 3 3) [fa, fb, fc] := by
  have hb := below_fresh w (.cells #[.slice a la ca, .slice b lb cb, .slice c lc cc] 23)
  refine ⟨[((a, la, ca), fa), ((b, lb, cb), fb), ((c, lc, cc), fc)], (ownG_fresh hlL 23 w [((a, la, ca), fa), ((b, lb, cb), fb), ((c, lc, cc), fc)] (by unfold maxLen; simp)).rd, ?_, rfl⟩
  intro p hp
  simp only [List.mem_cons, List.mem_nil_iff, or_false] at hp
  rcases hp with rfl | rfl | rfl
  · exact h1.below hb
  · exact h2.below hb
  · exact h3.below hb

set_option maxRecDepth 100000 in
set_option maxHeartbeats 2000000 in
theorem cWithin (va vb vc : Value) (fa fb fc : List Fp) (w : World) (h1 : RdF w va fa) (h2 : RdF w vb fb) (h3 : RdF w vc fc) (o1 : CM.Ok fa) (o2 : CM.Ok fb) (o3 : CM.Ok fc) :
    Calls Tryz.prog 15 #[va, vb, vc] w fun e w' => e = .returned (.bool (CM.cons fc fa && CM.cons fb fc)) ∧ Below w.heap.size w w' := by
  obtain ⟨a, ca, rfl, _, _⟩ := h1.shape
  obtain ⟨b, cb, rfl, _, _⟩ := h2.shape
  obtain ⟨c, cc, rfl, _, _⟩ := h3.shape
  have H3 := iThree w a b c _ ca _ cb _ cc fa fb fc h1 h2 h3
  have hb0 := below_fresh w (.cells #[.slice a fa.length ca, .slice b fb.length cb, .slice c fc.length cc] 23)
  obtain ⟨w1, hw1⟩ : ∃ w1, w.alloc (.cells #[.slice a fa.length ca, .slice b fb.length cb, .slice c fc.length cc] 23) = w1 := ⟨_, rfl⟩
  rw [hw1] at H3 hb0
  have HV := Lib.hid (iAllValid _ _ w1 H3 (by intro f hf; simp only [List.mem_cons, List.mem_nil_iff, or_false] at hf; rcases hf with rfl | rfl | rfl <;> assumption))
  have HC1 := Lib.hid (fun w' (hb : Below w.heap.size w w') => gContains _ _ fc fa w' (h3.below hb) (h1.below hb) o3.srt (by have := o3.nine; omega))
  have HC2 := Lib.hid (fun w' (hb : Below w.heap.size w w') => gContains _ _ fb fc w' (h2.below hb) (h3.below hb) o2.srt (by have := o2.nine; omega))
  have HB := Lib.hid hb0
  have HW := Lib.hid hw1
  generalize CM.cons fc fa = B1 at *
  generalize CM.cons fb fc = B2 at *
  clear H3 h1 h2 h3 o1 o2 o3 hb0 hw1
  generalize fa.length = la at *
  generalize fb.length = lb at *
  generalize fc.length = lc at *
  go_enter Tryz.func15, Tryz.ntmps15
  go_wp2_with fail
  rw [HW.out]
  refine HV.out.mono ?_
  rintro e w2 ⟨rfl, hb2⟩
  replace HB := Lib.hid (bnext HB.out hb2)
  clear hb2 HV HW
  go_wp2_with fail
  refine (HC1.out _ HB.out).mono ?_
  rintro e w3 ⟨rfl, hb3⟩
  replace HB := Lib.hid (bnext HB.out hb3)
  clear hb3 HC1
  cases B1
  · clear HC2
    go_wp2
    go_ret
    exact ⟨rfl, HB.out⟩
  · go_wp2_with fail
    refine (HC2.out _ HB.out).mono ?_
    rintro e w4 ⟨rfl, hb4⟩
    go_wp2
    go_ret
    exact ⟨rfl, bnext HB.out hb4⟩

set_option maxHeartbeats 1000000 in
theorem rWithin (va vb vc : Value) (fa fb fc : List Fp) (w : World) (h1 : RdF w va fa) (h2 : RdF w vb fb) (h3 : RdF w vc fc) :
    Calls Tryz.prog 16 #[va, vb, vc] w fun e w' => e = .returned (.bool (CM.conk fc fa && CM.conk fb fc)) ∧ Below w.heap.size w w' := by
  have HC1 := Lib.hid (fun w' (hb : Below w.heap.size w w') => rContains _ _ fc fa w' (h3.below hb) (h1.below hb))
  have HC2 := Lib.hid (fun w' (hb : Below w.heap.size w w') => rContains _ _ fb fc w' (h2.below hb) (h3.below hb))
  obtain ⟨a, ca, rfl, _, _⟩ := h1.shape
  obtain ⟨b, cb, rfl, _, _⟩ := h2.shape
  obtain ⟨c, cc, rfl, _, _⟩ := h3.shape
  generalize CM.conk fc fa = B1 at *
  generalize CM.conk fb fc = B2 at *
  clear h1 h2 h3
  generalize fa.length = la at *
  generalize fb.length = lb at *
  generalize fc.length = lc at *
  go_enter Tryz.func16, Tryz.ntmps16
  go_wp2_with fail
  refine (HC1.out _ (Below.refl _ _)).mono ?_
  rintro e w3 ⟨rfl, hb3⟩
  clear HC1
  cases B1
  · clear HC2
    go_wp2
    go_ret
    exact ⟨rfl, hb3⟩
  · go_wp2_with fail
    refine (HC2.out _ hb3).mono ?_
    rintro e w4 ⟨rfl, hb4⟩
    go_wp2
    go_ret
    exact ⟨rfl, bnext hb3 hb4⟩

end Go.Proofs.YthfpafnljnnndaaGreat

namespace Go.Proofs.YthfpafnljnnndaaGreat
open Go.RowKit Go.Joins Go.Shelf
open JM (Chg)
open CM (Fp)
open VM (Ent)

namespace IM
/-- A vector with m counts of the author a, from lo on. -/
def row (v : List Ent) (a lo : Int) (m : Nat) : List (List Ent) := (List.range m).map fun i : Nat => VM.wi v a (lo + (i : Int))
def num (lo hi : Int) : Nat := (hi - lo + 1).toNat
def step (L : List (List Ent)) (a lo hi : Int) : List (List Ent) := L.flatMap fun v => row v a lo (num lo hi)
/-- The vectors when j authors are done. -/
def vs (lo hi : Int → Int) : Nat → List (List Ent)
  | 0 => [[]]
  | j + 1 => step (vs lo hi j) (201 + (j : Int)) (lo (201 + (j : Int))) (hi (201 + (j : Int)))
theorem row_snoc (v : List Ent) (a lo : Int) (m : Nat) : row v a lo (m + 1) = row v a lo m ++ [VM.wi v a (lo + (m : Int))] := by simp [row, List.range_succ]
end IM

set_option maxRecDepth 100000 in
set_option maxHeartbeats 4000000 in
theorem cVectors (va vb : Value) (fa fb : List Fp) (w : World) (h1 : RdF w va fa) (h2 : RdF w vb fb) (o1 : CM.Ok fa) (o2 : CM.Ok fb) (hc : CM.cons fb fa = true)
    (hval : ∀ j, j ≤ 3 → ∀ x ∈ IM.vs (VM.cnt (CM.vo fa)) (VM.cnt (CM.vo fb)) j, VM.Val 0 x ∧ x.length ≤ 1000) (hlen : ∀ j, j ≤ 3 → (IM.vs (VM.cnt (CM.vo fa)) (VM.cnt (CM.vo fb)) j).length ≤ 1000)
    (hA : VM.Val 0 (CM.vo fa)) (hB : VM.Val 0 (CM.vo fb)) (hla : (CM.vo fa).length ≤ 1000) (hlb : (CM.vo fb).length ≤ 1000) (hlo : ∀ a, 0 ≤ VM.cnt (CM.vo fa) a) (hhi : ∀ a, VM.cnt (CM.vo fb) a ≤ 1000) (hab : ∀ a, VM.cnt (CM.vo fa) a ≤ VM.cnt (CM.vo fb) a) (hself : CM.cons fa fa = true) :
    Calls Tryz.prog 41 #[va, vb] w fun e w' => ∃ v, e = .returned v ∧ RdLs (fun w u x => VX.RdV w u x) w' v (IM.vs (VM.cnt (CM.vo fa)) (VM.cnt (CM.vo fb)) 3) ∧ Below w.heap.size w w' := by
  have HWI := Lib.hid (cWithin va vb va fa fb fa w h1 h2 h1 o1 o2 o1)
  rw [hc, hself] at HWI
  have HV1 := Lib.hid (fun w' (hb : Below w.heap.size w w') => gVector va fa w' (h1.below hb) (by have := o1.nine; omega))
  have HV2 := Lib.hid (fun w' (hb : Below w.heap.size w w') => gVector vb fb w' (h2.below hb) (by have := o2.nine; omega))
  obtain ⟨a, ca, rfl, _, _⟩ := h1.shape
  obtain ⟨b, cb, rfl, _, _⟩ := h2.shape
  generalize fa.length = lla at *
  generalize fb.length = llb at *
  generalize CM.vo fa = VA at *
  generalize CM.vo fb = VB at *
  have HVAL := Lib.hid hval
  have HLEN := Lib.hid hlen
  have HGA := Lib.hid (fun u x w' (h : VX.RdV w' u VA) => VX.wGet u VA x w' h hA hla)
  have HGB := Lib.hid (fun u x w' (h : VX.RdV w' u VB) => VX.wGet u VB x w' h hB hlb)
  obtain ⟨lo, hlo'⟩ : ∃ lo, lo = VM.cnt VA := ⟨_, rfl⟩
  obtain ⟨hi, hhi'⟩ : ∃ hi, hi = VM.cnt VB := ⟨_, rfl⟩
  rw [← hlo'] at HGA
  rw [← hhi'] at HGB
  rw [← hlo', ← hhi'] at HVAL HLEN ⊢
  rw [← hlo'] at hlo hab
  rw [← hhi'] at hhi hab
  clear h1 h2 o1 o2 hc hval hlen hA hB hla hlb hself hlo' hhi'
  go_enter Tryz.func41, Tryz.ntmps41
  go_wp2_with fail
  refine HWI.out.mono ?_
  rintro e w1 ⟨rfl, hb1⟩
  go_wp2_with fail
  refine (HV1.out _ hb1).mono ?_
  rintro e w2 ⟨u2, rfl, hu2, hb2⟩
  replace hb2 := bnext hb1 hb2
  obtain ⟨a2, c2, rfl, _, _⟩ := hu2.rd.shape
  have HU2 := Lib.hid hu2.rdV
  clear hu2 HV1 HWI hb1
  go_wp2_with fail
  refine (HV2.out _ hb2).mono ?_
  rintro e w3 ⟨u3, rfl, hu3, hb3⟩
  obtain ⟨a3, c3, rfl, _, _⟩ := hu3.rd.shape
  have HU3 := Lib.hid hu3.rdV
  have HB3 := Lib.hid (bnext hb2 hb3)
  have HU2' := Lib.hid (show VX.RdV w3 (.slice a2 VA.length c2) VA from HU2.out.below hb3)
  clear hu3 HV2 hb2 hb3 HU2
  have hz0 := World.size_alloc w3 (.cells #[.slice none 0 0] 54)
  have HL0 := Lib.hid (show OwnLs (fun w u x => OwnE w3.heap.size w u x) 54 w3.heap.size (w3.alloc (.cells #[.slice none 0 0] 54)) (.slice (some ⟨w3.heap.size, 0, none⟩) 1 1) (IM.vs lo hi 0) from
    ⟨[((none, 0, 0), [])], ownG_fresh hlL 54 w3 [((none, 0, 0), ([] : List Ent))] (by unfold maxLen; simp), by intro p hp; rw [List.mem_singleton] at hp; subst hp; exact OwnG.nil hlE _ _ _, rfl⟩)
  have HBL := Lib.hid (below_fresh w3 (.cells #[.slice none 0 0] 54))
  obtain ⟨w4, hw4⟩ : ∃ w4, w3.alloc (.cells #[.slice none 0 0] 54) = w4 := ⟨_, rfl⟩
  have HW4 := Lib.hid hw4
  rw [hw4] at HL0 HBL
  clear hz0 hw4
  go_wp2
  rw [HW4.out]
  clear HW4
  go_loopw [7, 8] (fun v ad wr => ∃ j : Nat, j ≤ 3 ∧ ad = .int .i64 (201 + (j : Int)) ∧ Hid (OwnLs (fun w u x => OwnE w3.heap.size w u x) 54 w3.heap.size wr v (IM.vs lo hi j)) ∧ Hid (Below w3.heap.size w3 wr)) (fun _ ad _ => 204 - (intOf ad).toNat)
  case atStart => exact ⟨0, Nat.zero_le _, rfl, HL0, HBL⟩
  case round =>
    obtain ⟨j, hj, rfl, hol, hbl⟩ := hrel
    clear HL0 HBL
    obtain ⟨la, lc, rfl, hcl, hll⟩ := hol.out.rd.shape
    have hjl := HLEN.out j hj
    by_cases hlt : j < 3
    case neg =>
      obtain rfl : j = 3 := by omega
      have hq : ¬ ((201 : Int) + ((3 : Nat) : Int) < 204) := by omega
      have HR := Lib.hid (hol.out.rd.imp (fun u x h => h.rdV))
      have HBF := Lib.hid (bnext HB3.out hbl.out)
      clear hol hbl hlt HVAL HLEN
      go_wp2
      go_ret
      exact ⟨_, rfl, HR.out, HBF.out⟩
    have hq : (201 : Int) + (j : Int) < 204 := by omega
    obtain ⟨wo, hwo⟩ : ∃ wo, wo = wr := ⟨_, rfl⟩
    rw [← hwo] at hol hbl ⊢
    clear hwo
    have hvs : IM.vs lo hi (j + 1) = (IM.vs lo hi j).flatMap fun v => IM.row v (201 + (j : Int)) (lo (201 + (j : Int))) (IM.num (lo (201 + (j : Int))) (hi (201 + (j : Int)))) := rfl
    have HVS := Lib.hid hvs
    have HVJ := Lib.hid (HVAL.out j hj)
    have HLJ := Lib.hid (HLEN.out (j + 1) (by omega))
    generalize hA : (201 : Int) + (j : Int) = A at *
    have hA1 : 1 ≤ A := by omega
    obtain ⟨l0, hl0⟩ : ∃ l0, l0 = lo A := ⟨_, rfl⟩
    obtain ⟨h0, hh0⟩ : ∃ h0, h0 = hi A := ⟨_, rfl⟩
    have b1 := hlo A
    have b2 := hhi A
    have b3 := hab A
    have HG1 := Lib.hid (fun w' (h : Below w3.heap.size w3 w') => HGA.out _ A w' (HU2'.out.below h))
    have HG2 := Lib.hid (fun w' (h : Below w3.heap.size w3 w') => HGB.out _ A w' (HU3.out.below h))
    rw [← hl0] at HG1 HVS b1 b3
    rw [← hh0] at HG2 HVS b2 b3
    obtain ⟨M, hM⟩ : ∃ M, M = IM.num l0 h0 := ⟨_, rfl⟩
    rw [← hM] at HVS
    have hMe : (M : Int) = h0 - l0 + 1 := by rw [hM]; unfold IM.num; omega
    clear hvs hl0 hh0 hM
    have HOL := Lib.hid hol.out.rd
    have HBO := Lib.hid hbl.out
    have hszo := hbl.out.size
    clear hol hbl
    go_wp2
    go_loopw [9, 29] (fun v ix wr => ∃ i : Nat, i ≤ (IM.vs lo hi j).length ∧ ix = .int .i64 i ∧ Hid (OwnLs (fun w u x => OwnE w3.heap.size w u x) 54 wo.heap.size wr v (((IM.vs lo hi j).take i).flatMap fun v => IM.row v A l0 M)) ∧ Hid (Below wo.heap.size wo wr)) (fun _ ix _ => (IM.vs lo hi j).length - (intOf ix).toNat)
    case atStart => exact ⟨0, Nat.zero_le _, rfl, Lib.hid (by rw [List.take_zero]; exact OwnLs.nil _ _ _), Lib.hid (Below.refl _ _)⟩
    case round =>
      obtain ⟨i, hii, rfl, hoe, hbw⟩ := hrel
      obtain ⟨ea, ec, hev, hec, hel⟩ := hoe.out.rd.shape
      obtain ⟨en, hen⟩ : ∃ en, en = (((IM.vs lo hi j).take i).flatMap fun v => IM.row v A l0 M).length := ⟨_, rfl⟩
      rw [← hen] at hev hel
      subst hev
      have HEN := Lib.hid hen
      clear hen
      by_cases hlt2 : i < (IM.vs lo hi j).length
      case neg =>
        have hq2 : ¬ ((i : Int) < ((IM.vs lo hi j).length : Int)) := by omega
        have HFO := Lib.hid (show OwnLs (fun w u x => OwnE w3.heap.size w u x) 54 w3.heap.size wr (.slice ea en ec) (IM.vs lo hi (j + 1)) by
          rw [HVS.out, ← List.take_of_length_le (l := IM.vs lo hi j) (i := i) (by omega)]
          exact hoe.out.mono hszo)
        have HFB := Lib.hid (show Below w3.heap.size w3 wr from bnext HBO.out hbw.out)
        clear hoe hbw HEN hec hel HG1 HG2
        go_wp2
        go_roundw
        case rel => exact ⟨j + 1, by omega, vint (by omega), HFO, HFB⟩
        case measure => simp [intOf]; omega
      have hq2 : (i : Int) < ((IM.vs lo hi j).length : Int) := by omega
      have hat := List.getElem?_eq_getElem hlt2
      have htk : (IM.vs lo hi j).take (i + 1) = (IM.vs lo hi j).take i ++ [(IM.vs lo hi j)[i]] := List.take_succ_eq_append_getElem hlt2
      generalize (IM.vs lo hi j)[i] = x at hat htk
      obtain ⟨xb, xo, xad, xl, xcp, hix, hxb, hxc, hxo⟩ := HOL.out.at_ vecE i x hat
      have hxc := below_cell hbw.out hxc
      have HTK := Lib.hid (show (((IM.vs lo hi j).take (i + 1)).flatMap fun v => IM.row v A l0 M) = (((IM.vs lo hi j).take i).flatMap fun v => IM.row v A l0 M) ++ IM.row x A l0 M by rw [htk, List.flatMap_append]; simp)
      have HXV := Lib.hid (HVJ.out x (List.mem_of_getElem? hat))
      have HXO := Lib.hid hxo
      have HPL := Lib.hid (show (((IM.vs lo hi j).take i).flatMap fun v => IM.row v A l0 M).length + (IM.row x A l0 M).length ≤ 1000 by
        have e1 : (IM.vs lo hi (j + 1)).length = _ := congrArg List.length HVS.out
        have e2 := HLJ.out
        rw [e1, ← List.take_append_drop (i + 1) (IM.vs lo hi j), List.flatMap_append, List.length_append, HTK.out, List.length_append] at e2
        omega)
      obtain ⟨wi, hwi⟩ : ∃ wi, wi = wr := ⟨_, rfl⟩
      rw [← hwi] at hoe hbw hxc ⊢
      clear hwi hat htk hxo
      go_wp2_with fail
      refine (HG1.out wi (bnext HBO.out hbw.out)).mono ?_
      rintro e w5 ⟨rfl, hb5⟩
      have HE5 := Lib.hid (hoe.out.below hb5 (fun u x h => h.below hb5))
      have HB5 := Lib.hid (show Below wo.heap.size wo w5 from bnext hbw.out hb5)
      clear hoe hbw hb5 hxc hxb hix
      obtain ⟨PRE, hPRE⟩ : ∃ PRE, PRE = ((IM.vs lo hi j).take i).flatMap fun v => IM.row v A l0 M := ⟨_, rfl⟩
      rw [← hPRE] at HTK HE5 HPL HEN
      clear hPRE
      go_wp2
      go_loopw [9, 12] (fun v nn wr => ∃ m : Nat, m ≤ M ∧ nn = .int .i64 (l0 + (m : Int)) ∧ Hid (OwnLs (fun w u x => OwnE w3.heap.size w u x) 54 wo.heap.size wr v (PRE ++ IM.row x A l0 m)) ∧ Hid (Below wo.heap.size wo wr)) (fun _ nn _ => (h0 + 1 - intOf nn).toNat)
      case atStart => exact ⟨0, Nat.zero_le _, vint (by omega), Lib.hid (by rw [show IM.row x A l0 0 = [] from rfl, List.append_nil]; first | exact HE5.out | (have h9 := HE5.out; rw [HEN.out] at h9; exact h9)), HB5⟩
      case round =>
        obtain ⟨m, hm, rfl, hoe, hbw⟩ := hrel
        clear HE5 HB5
        obtain ⟨fa2, fc2, hev, hec2, hel2⟩ := hoe.out.rd.shape
        obtain ⟨fn, hfn⟩ : ∃ fn, fn = (PRE ++ IM.row x A l0 m).length := ⟨_, rfl⟩
        rw [← hfn] at hev hel2
        subst hev
        have HFN := Lib.hid hfn
        clear hfn
        go_wp2_with fail
        refine (HG2.out wr (bnext HBO.out hbw.out)).mono ?_
        rintro e w6 ⟨rfl, hb6⟩
        have HE6 := Lib.hid (hoe.out.below hb6 (fun u x h => h.below hb6))
        have HB6 := Lib.hid (show Below wo.heap.size wo w6 from bnext hbw.out hb6)
        clear hoe hbw hb6
        by_cases hmM : m < M
        case neg =>
          obtain rfl : m = M := by omega
          have hq3 : ¬ (l0 + (m : Int) ≤ h0) := by omega
          have HFO := Lib.hid (show OwnLs (fun w u x => OwnE w3.heap.size w u x) 54 wo.heap.size w6 (.slice fa2 fn fc2) (((IM.vs lo hi j).take (i + 1)).flatMap fun v => IM.row v A l0 m) by rw [HTK.out]; exact HE6.out)
          clear HE6 HTK HFN HG1 HG2 hmM hm
          go_wp2
          go_roundw
          case rel => exact ⟨i + 1, by omega, by go_num, HFO, HB6⟩
          case measure => simp [intOf]; omega
        have hq3 : l0 + (m : Int) ≤ h0 := by omega
        have HXR := Lib.hid (show VX.RdV w6 (.slice xad xl xcp) x from OwnE.rdV (HXO.out.below HB6.out))
        have HWT := Lib.hid (VX.wWith _ x A (l0 + (m : Int)) w6 HXR.out HXV.out.1 hA1 (by omega) (by omega) HXV.out.2)
        go_wp2_with fail
        refine HWT.out.mono ?_
        rintro e w7 ⟨v7, rfl, ho7, hb7⟩
        obtain ⟨a7, c7, hv7, _, _⟩ := (vx_ownE ho7).rd.shape
        obtain ⟨n7, hn7⟩ : ∃ n7, n7 = (VM.wi x A (l0 + (m : Int))).length := ⟨_, rfl⟩
        rw [← hn7] at hv7
        subst hv7
        have HO7 := Lib.hid (vx_ownE ho7)
        have HSZ := Lib.hid (show w3.heap.size ≤ w6.heap.size from (bnext HBO.out HB6.out).size)
        have HB7 := Lib.hid (show Below wo.heap.size wo w7 from bnext HB6.out hb7)
        obtain ⟨ps, hp1, hp2, hp3⟩ := HE6.out.below hb7 (fun u x h => h.below hb7)
        have hpl : ps.length ≤ 1073741824 := by
          have e1 := congrArg List.length hp3
          rw [List.length_map, List.length_append] at e1
          have e2 := HPL.out
          have e3 : (IM.row x A l0 m).length = m := by simp [IM.row]
          have e4 : (IM.row x A l0 M).length = M := by simp [IM.row]
          omega
        have HP2 := Lib.hid hp2
        have HP3 := Lib.hid hp3
        have hs7 := HB7.out.size
        clear ho7 hb7 hn7 HWT HE6 HXR hp2 hp3
        go_wp2_with (at_builtin; refine wp_appG1 vecE ((a7, n7, c7), VM.wi x A (l0 + (m : Int))) rfl _ _ rfl rfl hp1 rfl hpl hs7 ?_)
        intro v8 w8 ho8 hb8 hk8 _
        obtain ⟨a8, l8, c8, hv8⟩ : ∃ a l c, v8 = .slice a l c := by obtain ⟨a, c, h, _⟩ := ho8.rd.shape; exact ⟨a, _, c, h⟩
        subst hv8
        have HFO := Lib.hid (show OwnLs (fun w u x => OwnE w3.heap.size w u x) 54 wo.heap.size w8 (.slice a8 l8 c8) (PRE ++ IM.row x A l0 (m + 1)) by
          rw [IM.row_snoc, ← List.append_assoc]
          exact OwnLs.snoc HP2.out HP3.out ho8 (fun u y h => ownG_keep h hk8 (by decide)) (ownG_keep (HO7.out.mono HSZ.out) hk8 (by decide)))
        have HB8 := Lib.hid (HB7.out.trans hb8)
        clear ho8 hb8 hk8 hp1 HP2 HP3 HB7 HO7 HSZ hs7 hpl
        go_wp2
        go_roundw
        case rel => exact ⟨m + 1, by omega, vint (by omega), HFO, HB8⟩
        case measure => simp [intOf]; omega

namespace IM
theorem mem_row {v x : List Ent} {a lo : Int} {m : Nat} (h : x ∈ row v a lo m) : ∃ i : Nat, i < m ∧ x = VM.wi v a (lo + (i : Int)) := by
  obtain ⟨i, hi, rfl⟩ := List.mem_map.1 h
  exact ⟨i, List.mem_range.1 hi, rfl⟩
theorem vs_ok (lo hi : Int → Int) (h0 : ∀ a, 0 ≤ lo a) (h1 : ∀ a, hi a ≤ 3) (hab : ∀ a, lo a ≤ hi a) : ∀ j, (∀ x ∈ vs lo hi j, VM.Val 0 x ∧ x.length ≤ j) ∧ (vs lo hi j).length ≤ 4 ^ j
  | 0 => ⟨fun x hx => by rw [List.mem_singleton.1 hx]; exact ⟨VM.Val.nil 0, Nat.zero_le _⟩, Nat.le_refl _⟩
  | j + 1 => by
    obtain ⟨g1, g2⟩ := vs_ok lo hi h0 h1 hab j
    refine ⟨fun x hx => ?_, ?_⟩
    · obtain ⟨v, hv, hr⟩ := List.mem_flatMap.1 hx
      obtain ⟨i, hi', rfl⟩ := mem_row hr
      have k0 := h0 (201 + (j : Int))
      have k1 := h1 (201 + (j : Int))
      have k2 := hab (201 + (j : Int))
      unfold num at hi'
      refine ⟨(VM.wi_spec (by omega) (by omega) (by omega) (g1 v hv).1).1, Nat.le_trans (VM.wi_length _ _ _) (by have := (g1 v hv).2; omega)⟩
    · have hl : ∀ v, (row v (201 + (j : Int)) (lo (201 + (j : Int))) (num (lo (201 + (j : Int))) (hi (201 + (j : Int))))).length ≤ 4 := fun v => by
        have k0 := h0 (201 + (j : Int))
        have k1 := h1 (201 + (j : Int))
        simp [row, num]; omega
      have hf : ∀ (L : List (List Ent)) (f : List Ent → List (List Ent)), (∀ v, (f v).length ≤ 4) → (L.flatMap f).length ≤ L.length * 4 := fun L f h => by
        induction L with
        | nil => simp
        | cons v L ih => rw [List.flatMap_cons, List.length_append, List.length_cons]; have := h v; omega
      have := hf (vs lo hi j) _ hl
      show (List.flatMap _ _).length ≤ _
      rw [Nat.pow_succ]
      omega
/-- The vectors of an interval. -/
def iv (fa fb : List Fp) : List (List Ent) := if CM.cons fb fa = true then vs (VM.cnt (CM.vo fa)) (VM.cnt (CM.vo fb)) 3 else []
def all (fa fb : List Fp) : List (List Fp) := (iv fa fb).map fun v => CM.rs fb (VM.cnt v)
end IM

set_option maxRecDepth 100000 in
set_option maxHeartbeats 2000000 in
theorem cVecs (va vb : Value) (fa fb : List Fp) (w : World) (h1 : RdF w va fa) (h2 : RdF w vb fb) (o1 : CM.Ok fa) (o2 : CM.Ok fb) :
    Calls Tryz.prog 41 #[va, vb] w fun e w' => ∃ v, e = .returned v ∧ RdLs (fun w u x => VX.RdV w u x) w' v (IM.iv fa fb) ∧ Below w.heap.size w w' := by
  have hself : CM.cons fa fa = true := CM.cons_iff.2 fun f hf => hf
  by_cases hc : CM.cons fb fa = true
  · have e : IM.iv fa fb = IM.vs (VM.cnt (CM.vo fa)) (VM.cnt (CM.vo fb)) 3 := if_pos hc
    rw [e]
    have s1 := CM.vo_spec o1
    have s2 := CM.vo_spec o2
    have hlo : ∀ a, 0 ≤ VM.cnt (CM.vo fa) a := fun a => by rw [s1.2]; exact CM.ct_pos _ _
    have hhi : ∀ a, VM.cnt (CM.vo fb) a ≤ 3 := fun a => by rw [s2.2]; exact o2.ct3 a
    have hab : ∀ a, VM.cnt (CM.vo fa) a ≤ VM.cnt (CM.vo fb) a := fun a => by
      rw [s1.2, s2.2]
      by_cases hz : CM.ct fa a < 1
      · have := CM.ct_pos fb a; omega
      · have h3 := (o1.has a (CM.ct fa a) (by omega)).2 (Int.le_refl _)
        obtain ⟨f, hf, e1, e2⟩ := CM.hasK_iff.1 h3
        exact (o2.has a (CM.ct fa a) (by omega)).1 (CM.hasK_iff.2 ⟨f, CM.cons_iff.1 hc f hf, e1, e2⟩)
    have hv := IM.vs_ok _ _ hlo hhi hab
    exact cVectors va vb fa fb w h1 h2 o1 o2 hc (fun j hj x hx => ⟨((hv j).1 x hx).1, by have := ((hv j).1 x hx).2; omega⟩)
      (fun j hj => Nat.le_trans (hv j).2 (Nat.le_trans (Nat.pow_le_pow_right (by decide) hj) (by decide)))
      s1.1 s2.1 (by have := CM.vo_len fa; have := o1.nine; omega) (by have := CM.vo_len fb; have := o2.nine; omega) hlo (fun a => by have := hhi a; omega) hab hself
  · have hcf : CM.cons fb fa = false := by simpa using hc
    have e : IM.iv fa fb = [] := if_neg hc
    rw [e]
    have hw := cWithin va vb va fa fb fa w h1 h2 h1 o1 o2 o1
    rw [hcf, hself] at hw
    have HW := Lib.hid hw
    obtain ⟨a, ca, rfl, _, _⟩ := h1.shape
    obtain ⟨b, cb, rfl, _, _⟩ := h2.shape
    clear h1 h2 o1 o2 hc hcf hself e hw
    go_enter Tryz.func41, Tryz.ntmps41
    go_wp2_with fail
    refine HW.out.mono ?_
    rintro e w1 ⟨rfl, hb⟩
    go_wp2
    go_ret
    exact ⟨_, rfl, ⟨[], RdG.nil hlL _, (fun _ h => by cases h), rfl⟩, hb⟩

set_option maxHeartbeats 1000000 in
theorem cCount (va vb : Value) (fa fb : List Fp) (w : World) (h1 : RdF w va fa) (h2 : RdF w vb fb) (o1 : CM.Ok fa) (o2 : CM.Ok fb) :
    Calls Tryz.prog 14 #[va, vb] w fun e w' => e = .returned (.int .i64 (IM.iv fa fb).length) ∧ Below w.heap.size w w' := by
  have HV := Lib.hid (cVecs va vb fa fb w h1 h2 o1 o2)
  obtain ⟨a, ca, rfl, _, _⟩ := h1.shape
  obtain ⟨b, cb, rfl, _, _⟩ := h2.shape
  clear h1 h2 o1 o2
  go_enter Tryz.func14, Tryz.ntmps14
  go_wp2_with fail
  refine HV.out.mono ?_
  rintro e w1 ⟨v, rfl, hr, hb⟩
  obtain ⟨c, cc, rfl, _, _⟩ := hr.shape
  go_wp2
  go_ret
  exact ⟨rfl, hb⟩

end Go.Proofs.YthfpafnljnnndaaGreat

namespace Go.Proofs.YthfpafnljnnndaaGreat
open Go.RowKit Go.Joins Go.Shelf
open JM (Chg)
open CM (Fp)
open VM (Ent)

theorem IM.iv_ok {fa fb : List Fp} (o1 : CM.Ok fa) (o2 : CM.Ok fb) : (∀ x ∈ IM.iv fa fb, VM.Val 0 x ∧ x.length ≤ 1000) ∧ (IM.iv fa fb).length ≤ 1000 := by
  unfold IM.iv
  split
  · rename_i hc
    have s1 := CM.vo_spec o1
    have s2 := CM.vo_spec o2
    have hv := IM.vs_ok (VM.cnt (CM.vo fa)) (VM.cnt (CM.vo fb)) (fun a => by rw [s1.2]; exact CM.ct_pos _ _) (fun a => by rw [s2.2]; exact o2.ct3 a) (fun a => by
      rw [s1.2, s2.2]
      by_cases hz : CM.ct fa a < 1
      · have := CM.ct_pos fb a; omega
      · have h3 := (o1.has a (CM.ct fa a) (by omega)).2 (Int.le_refl _)
        obtain ⟨f, hf, e1, e2⟩ := CM.hasK_iff.1 h3
        exact (o2.has a (CM.ct fa a) (by omega)).1 (CM.hasK_iff.2 ⟨f, CM.cons_iff.1 hc f hf, e1, e2⟩)) 3
    exact ⟨fun x hx => ⟨(hv.1 x hx).1, by have := (hv.1 x hx).2; omega⟩, by have := hv.2; omega⟩
  · exact ⟨fun x hx => by simp at hx, by simp⟩

set_option maxRecDepth 100000 in
set_option maxHeartbeats 2000000 in
theorem cAll (va vb : Value) (fa fb : List Fp) (w : World) (h1 : RdF w va fa) (h2 : RdF w vb fb) (o1 : CM.Ok fa) (o2 : CM.Ok fb) :
    Calls Tryz.prog 13 #[va, vb] w fun e w' => ∃ v, e = .returned v ∧ OwnLs (fun w' u x => OwnD w.heap.size w' u x) 23 w.heap.size w' v (IM.all fa fb) ∧ Below w.heap.size w w' := by
  have HV := Lib.hid (cVecs va vb fa fb w h1 h2 o1 o2)
  obtain ⟨hv1, hv2⟩ := IM.iv_ok o1 o2
  have HR := Lib.hid (fun u x w' (hb : Below w.heap.size w w') (hu : VX.RdV w' u x) (hx : VM.Val 0 x ∧ x.length ≤ 1000) => gRestrictO vb u fb x w' (h2.below hb) hu hx.1 hx.2 (by have := o2.nine; omega) (all_len o2.all))
  obtain ⟨a, ca, rfl, _, _⟩ := h1.shape
  obtain ⟨b, cb, rfl, _, _⟩ := h2.shape
  have hall : IM.all fa fb = (IM.iv fa fb).map fun v => CM.rs fb (VM.cnt v) := rfl
  rw [hall]
  generalize IM.iv fa fb = L at *
  have HV1 := Lib.hid hv1
  clear h1 h2 o1 o2 hall hv1
  go_enter Tryz.func13, Tryz.ntmps13
  go_wp2_with fail
  refine HV.out.mono ?_
  rintro e w1 ⟨v1, rfl, hr1, hb1⟩
  obtain ⟨c, cc, rfl, _, _⟩ := hr1.shape
  have HR1 := Lib.hid hr1
  have HB1 := Lib.hid hb1
  clear hr1 hb1 HV
  go_wp2
  go_loopw [5, 12] (fun v ix wr => ∃ i : Nat, i ≤ L.length ∧ ix = .int .i64 i ∧ Hid (OwnLs (fun w' u x => OwnD w.heap.size w' u x) 23 w1.heap.size wr v ((L.take i).map fun v => CM.rs fb (VM.cnt v))) ∧ Hid (Below w1.heap.size w1 wr)) (fun _ ix _ => L.length - (intOf ix).toNat)
  case atStart => exact ⟨0, Nat.zero_le _, rfl, Lib.hid (by rw [List.take_zero]; exact OwnLs.nil _ _ _), Lib.hid (Below.refl _ _)⟩
  case round =>
    obtain ⟨i, hii, rfl, hoe, hbw⟩ := hrel
    obtain ⟨ea, ec, hev, hec, hel⟩ := hoe.out.rd.shape
    obtain ⟨en, hen⟩ : ∃ en, en = ((L.take i).map fun v => CM.rs fb (VM.cnt v)).length := ⟨_, rfl⟩
    rw [← hen] at hev hel
    subst hev
    have HEN := Lib.hid hen
    clear hen
    by_cases hlt : i < L.length
    case neg =>
      have hq2 : ¬ ((i : Int) < (L.length : Int)) := by omega
      have HFO := Lib.hid (show OwnLs (fun w' u x => OwnD w.heap.size w' u x) 23 w.heap.size wr (.slice ea en ec) (L.map fun v => CM.rs fb (VM.cnt v)) by
        have h9 := hoe.out
        rw [List.take_of_length_le (by omega)] at h9
        exact h9.mono HB1.out.size)
      have HFB := Lib.hid (bnext HB1.out hbw.out)
      clear hoe hbw HEN hec hel HR
      go_wp2
      go_ret
      exact ⟨_, rfl, HFO.out, HFB.out⟩
    have hq2 : (i : Int) < (L.length : Int) := by omega
    have hat := List.getElem?_eq_getElem hlt
    have htk : L.take (i + 1) = L.take i ++ [L[i]] := List.take_succ_eq_append_getElem hlt
    generalize L[i] = x at hat htk
    obtain ⟨xb, xo, xad, xl, xcp, hix, hxb, hxc, hxo⟩ := HR1.out.at_ vecE i x hat
    have hxc := below_cell hbw.out hxc
    have HTK := Lib.hid htk
    have HRX := Lib.hid (HR.out _ x wr (bnext HB1.out hbw.out) (hxo.below hbw.out) (HV1.out x (List.mem_of_getElem? hat)))
    clear hat htk hxo
    go_wp2_with fail
    refine HRX.out.mono ?_
    rintro e w2 ⟨v2, rfl, ho2, hb2⟩
    obtain ⟨a2, c2, hv2, _, _⟩ := ho2.rd.shape
    obtain ⟨n2, hn2⟩ : ∃ n2, n2 = (CM.rs fb (VM.cnt x)).length := ⟨_, rfl⟩
    rw [← hn2] at hv2
    subst hv2
    obtain ⟨ps, hp1, hp2, hp3⟩ := hoe.out.below hb2 (fun u x h => h.below hb2)
    have hpl : ps.length ≤ 1073741824 := by
      have e1 := congrArg List.length hp3
      rw [List.length_map, List.length_map, List.length_take] at e1
      omega
    have HO2 := Lib.hid (ho2.mono (bnext HB1.out hbw.out).size)
    have HB2 := Lib.hid (show Below w1.heap.size w1 w2 from bnext hbw.out hb2)
    have HP2 := Lib.hid hp2
    have HP3 := Lib.hid hp3
    have hs2 := HB2.out.size
    clear ho2 hb2 hn2 HRX hoe hbw hp2 hp3 hxc hxb hix
    go_wp2_with (at_builtin; refine wp_appG1 cfgE ((a2, n2, c2), CM.rs fb (VM.cnt x)) rfl _ _ rfl rfl hp1 rfl hpl hs2 ?_)
    intro v8 w8 ho8 hb8 hk8 _
    obtain ⟨a8, l8, c8, hv8⟩ : ∃ a l c, v8 = .slice a l c := by obtain ⟨a, c, h, _⟩ := ho8.rd.shape; exact ⟨a, _, c, h⟩
    subst hv8
    have HFO := Lib.hid (show OwnLs (fun w' u x => OwnD w.heap.size w' u x) 23 w1.heap.size w8 (.slice a8 l8 c8) ((L.take (i + 1)).map fun v => CM.rs fb (VM.cnt v)) by
      rw [HTK.out, List.map_append]
      exact OwnLs.snoc HP2.out HP3.out ho8 (fun u y h => h.keep hk8 (by decide) (by decide)) (HO2.out.keep hk8 (by decide) (by decide)))
    have HB8 := Lib.hid (HB2.out.trans hb8)
    clear ho8 hb8 hk8 hp1 HP2 HP3 HB2 HO2 hs2 hpl
    go_wp2
    go_roundw
    case rel => exact ⟨i + 1, by omega, by go_num, HFO, HB8⟩
    case measure => simp [intOf]; omega

end Go.Proofs.YthfpafnljnnndaaGreat
