/-
  The calls of the kit's Valid at a list of configurations, of the law's same, and of the reference's All. Conditions: what comes in reads.
-/
import Derived.Test.YtejafpbobgkibaaGreatIRAl
import Derived.Test.YtejafpbobgkibaaGreatKI
namespace Go.Proofs.YtejafpbobgkibaaGreat
open Go.RowKit Go.Joins Go.Shelf
open JM (Chg)
open CM (Fp)
open VM (Ent)

/-- All are valid, and agree with those ahead of them. -/
def VldK (ls : List (List Fp)) (i k : Nat) : Prop := (∀ j f, ls[j]? = some f → j < i → CM.Ok f) ∧ (∀ (a b : Nat) (f g : List Fp), ls[a]? = some f → ls[b]? = some g → b < a → a < i ∨ (a = i ∧ b < k) → CM.Agr f g)
def VPost (ls : List (List Fp)) (w : World) (e : Ending) (w' : World) : Prop := ∃ B : Bool, e = .returned (.bool B) ∧ (B = true → (∀ f ∈ ls, CM.Ok f) ∧ ∀ (a b : Nat) (f g : List Fp), ls[a]? = some f → ls[b]? = some g → b < a → CM.Agr f g) ∧ Below w.heap.size w w'
set_option maxRecDepth 100000 in
set_option maxHeartbeats 4000000 in
theorem kValidL (v : Value) (ls : List (List Fp)) (w : World) (h : RdLs RdF w v ls) :
    Calls Tryz.prog 9 #[v] w (VPost ls w) := by
  obtain ⟨ad, c, rfl, hc, hll⟩ := h.shape
  have HX := Lib.hid h
  clear h
  go_enter Tryz.func9, Tryz.ntmps9
  go_wp2
  go_loopw [3] (fun i wr => ∃ j : Nat, j ≤ ls.length ∧ i = .int .i64 j ∧ Below w.heap.size w wr ∧ Hid (VldK ls j 0)) (fun i _ => ls.length - (intOf i).toNat)
  case atStart => exact ⟨0, Nat.zero_le _, rfl, Below.refl _ _, Lib.hid ⟨fun j f _ h => by omega, fun a b f g _ _ h1 h2 => by omega⟩⟩
  case round =>
    obtain ⟨i, hi', rfl, hbl, he⟩ := hrel
    by_cases hlt : i < ls.length
    case neg =>
      have hq : ¬ ((i : Int) < (ls.length : Int)) := by omega
      have HF := Lib.hid (show (∀ f ∈ ls, CM.Ok f) ∧ ∀ (a b : Nat) (f g : List Fp), ls[a]? = some f → ls[b]? = some g → b < a → CM.Agr f g from by
        obtain ⟨h1, h2⟩ := he.out
        refine ⟨fun f hf => ?_, fun a b f g ha hb hba => h2 a b f g ha hb hba (.inl ?_)⟩
        · obtain ⟨j, hj, rfl⟩ := List.getElem_of_mem hf
          exact h1 j _ (List.getElem?_eq_getElem hj) (by omega)
        · have := (List.getElem?_eq_some_iff.1 ha).1; omega)
      clear he
      go_wp2
      go_ret
      exact ⟨true, rfl, fun _ => HF.out, hbl⟩
    have hq : (i : Int) < (ls.length : Int) := by omega
    have hat := List.getElem?_eq_getElem hlt
    generalize ls[i] = f at hat
    obtain ⟨b, o, ad2, l2, c2, hix, hb, d0, hrd⟩ := HX.out.at_ cfgE i f hat
    have d0 := below_cell hbl d0
    have HV := Lib.hid (rValidateC _ f wr (hrd.below hbl))
    obtain ⟨E, hE⟩ : ∃ E, E = CM.errL (0, 0) f := ⟨_, rfl⟩
    rw [← hE] at HV
    have HRD := Lib.hid hrd
    have HAT := Lib.hid hat
    have HEE := Lib.hid hE
    clear hrd hat hE
    go_wp2_with fail
    refine HV.out.mono ?_
    rintro e w2 ⟨rfl, hb2⟩
    have HB2 := Lib.hid (bnext hbl hb2)
    clear hbl hb2 HV d0
    by_cases hz : E = 0
    case neg =>
      have hne : (E != 0) = true := by simpa using hz
      clear hz he HEE
      go_wp2
      go_ret
      exact ⟨false, rfl, fun h => by simp at h, HB2.out⟩
    subst hz
    have HE1 := Lib.hid (show VldK ls i 0 ∧ CM.Ok f from ⟨he.out, HEE.out.symm⟩)
    clear he HEE
    go_wp2
    go_loopw [4] (fun i2 wr => ∃ k : Nat, k ≤ i ∧ i2 = .int .i64 k ∧ Below w.heap.size w wr ∧ Hid (VldK ls i k)) (fun i2 _ => i - (intOf i2).toNat)
    case atStart => exact ⟨0, Nat.zero_le _, rfl, HB2.out, Lib.hid HE1.out.1⟩
    case round =>
      obtain ⟨k, hk', rfl, hbl, he⟩ := hrel
      by_cases hlk : k < i
      case neg =>
        have hq2 : ¬ ((k : Int) < (i : Int)) := by omega
        have HN := Lib.hid (show VldK ls (i + 1) 0 from by
          obtain ⟨h1, h2⟩ := he.out
          refine ⟨fun j g hj hji => ?_, fun a b x y ha hb hba hor => ?_⟩
          · by_cases hji2 : j = i
            · subst hji2
              obtain rfl : f = g := Option.some.inj (HAT.out.symm.trans hj)
              exact HE1.out.2
            · exact h1 j g hj (by omega)
          · exact h2 a b x y ha hb hba (by omega))
        clear he HE1
        go_wp2
        go_roundw
        case rel => exact ⟨i + 1, by omega, by go_num, hbl, HN⟩
        case measure => simp [intOf]; omega
      have hq2 : (k : Int) < (i : Int) := by omega
      have hat := List.getElem?_eq_getElem (show k < ls.length by omega)
      generalize ls[k]'(by omega) = g at hat
      obtain ⟨b3, o3, ad3, l3, c3, hix3, hb3, e0, hrd3⟩ := HX.out.at_ cfgE k g hat
      obtain ⟨b4, o4, ad4, l4, c4, hix4, hb4, d0, hrd4⟩ := HX.out.at_ cfgE i f HAT.out
      have k0 : ∀ p : Later wr, p.val.cell? ⟨b4, o4, none⟩ = some (.slice ad4 l4 c4) := fun p => below_cell (bnext hbl p.h) d0
      have k1 : ∀ p : Later wr, p.val.cell? ⟨b3, o3, none⟩ = some (.slice ad3 l3 c3) := fun p => below_cell (bnext hbl p.h) e0
      have HG := Lib.hid (fun p : Later wr => Calls.later (rAgree _ _ f g p.val (hrd4.below (bnext hbl p.h)) (hrd3.below (bnext hbl p.h))))
      obtain ⟨AG, hAG⟩ : ∃ AG, AG = CM.agr f g := ⟨_, rfl⟩
      rw [← hAG] at HG
      have HAG := Lib.hid hAG
      have HATK := Lib.hid hat
      have HBL := Lib.hid hbl
      clear hat e0 d0 hrd3 hrd4 hAG hix hb hbl
      go_wp2
      refine wp_region_later (by kernel_rfl) (by kernel_rfl) ?_
      repeat (go_big_quiet_step (first | (go_at_call 37; with_reducible exact HG.out _)))
      refine wpQuiet_nil ?_
      rintro _ ⟨p', rfl⟩
      have HB3 := Lib.hid (bnext HBL.out p'.h)
      generalize p'.val = w3 at HB3 ⊢
      clear HG k0 k1 HBL
      cases AG
      · clear he HE1
        go_wp2
        go_ret
        exact ⟨false, rfl, fun h => by simp at h, HB3.out⟩
      · have HN := Lib.hid (show VldK ls i (k + 1) from by
          obtain ⟨h1, h2⟩ := he.out
          refine ⟨h1, fun a b x y ha hb hba hor => ?_⟩
          by_cases hh : a = i ∧ b = k
          · obtain ⟨rfl, rfl⟩ := hh
            obtain rfl : f = x := Option.some.inj (HAT.out.symm.trans ha)
            obtain rfl : g = y := Option.some.inj (HATK.out.symm.trans hb)
            exact CM.agr_iff HAG.out.symm
          · exact h2 a b x y ha hb hba (by omega))
        clear he
        go_wp2
        go_roundw
        case rel => exact ⟨k + 1, by omega, by go_num, HB3.out, HN⟩
        case measure => simp [intOf]; omega


set_option maxRecDepth 100000 in
set_option maxHeartbeats 2000000 in
theorem rAll (va vb : Value) (fa fb : List Fp) (w : World) (h1 : RdF w va fa) (h2 : RdF w vb fb) (o1 : CM.Ok fa) (o2 : CM.Ok fb) (hag : CM.Agr fb fa) :
    Calls Tryz.prog 11 #[va, vb] w fun e w' => ∃ v, e = .returned v ∧ OwnLs (fun w' u x => OwnF w w.heap.size w' u x) 23 w.heap.size w' v (IM.all fa fb) ∧ Below w.heap.size w w' := by
  by_cases hc : CM.cons fb fa = true
  · have s1 := CM.vo_spec o1
    have s2 := CM.vo_spec o2
    have hab : ∀ a, CM.ct fa a ≤ CM.ct fb a := fun a => by
      by_cases hz : CM.ct fa a < 1
      · have := CM.ct_pos fb a; omega
      · have h3 := (o1.has a (CM.ct fa a) (by omega)).2 (Int.le_refl _)
        obtain ⟨f, hf, e1, e2⟩ := CM.hasK_iff.1 h3
        exact (o2.has a (CM.ct fa a) (by omega)).1 (CM.hasK_iff.2 ⟨f, CM.cons_iff.1 hc f hf, e1, e2⟩)
    have hM : ∀ a, ((IM.num (CM.ct fa a) (CM.ct fb a) : Nat) : Int) = CM.ct fb a - CM.ct fa a + 1 ∧ IM.num (CM.ct fa a) (CM.ct fb a) ≤ 4 := fun a => by
      have k1 := hab a
      have k2 := o2.ct3 a
      have k3 := CM.ct_pos fa a
      unfold IM.num; omega
    have e := IM.all_F0 hc
    rw [s1.2, s1.2, s1.2, s2.2, s2.2, s2.2] at e
    rw [e]
    exact rAllIn va vb fa fb w h1 h2 o1 o2 (by rw [CM.conk_cons hag]; exact hc) _ _ _ (hM 201).1 (hM 202).1 (hM 203).1 (hM 201).2 (hM 202).2 (hM 203).2
  · have e : IM.all fa fb = [] := by unfold IM.all IM.iv; rw [if_neg hc]; rfl
    have hcf : CM.conk fb fa = false := by rw [CM.conk_cons hag]; simpa using hc
    rw [e]
    have hct := rContains vb va fb fa w h2 h1
    rw [hcf] at hct
    have HCT := Lib.hid hct
    obtain ⟨a, ca, rfl, _, _⟩ := h1.shape
    obtain ⟨b, cb, rfl, _, _⟩ := h2.shape
    clear h1 h2 o1 o2 hc hcf e hag hct
    go_enter Tryz.func11, Tryz.ntmps11
    go_wp2_with fail
    refine HCT.out.mono ?_
    rintro e w1 ⟨rfl, hb⟩
    go_wp2
    go_ret
    exact ⟨_, rfl, OwnLs.nil _ _ _, hb⟩

set_option maxRecDepth 100000 in
set_option maxHeartbeats 2000000 in
theorem lSame9 (u v : Value) (xs ys : List (List Fp)) (w : World) (hx : RdLs RdF w u xs) (hy : RdLs RdF w v ys) (he0 : xs = ys) :
    Calls Tryz.prog 12 #[u, v] w fun e w' => e = .returned (.bool true) ∧ Below w.heap.size w w' := by
  subst he0
  obtain ⟨ad, c, rfl, hc, hl⟩ := hx.shape
  obtain ⟨bd, d, rfl, hd, hld⟩ := hy.shape
  have HA := Lib.hid hx
  have HBB := Lib.hid hy
  have hq0 : ((xs.length : Int) != (xs.length : Int)) = false := by simp
  clear hx hy
  go_enter Tryz.func12, Tryz.ntmps12
  go_wp2
  go_loopw [5] (fun i wr => ∃ k : Nat, k ≤ xs.length ∧ i = .int .i64 k ∧ Below w.heap.size w wr) (fun i _ => xs.length - (intOf i).toNat)
  case atStart => exact ⟨0, Nat.zero_le _, rfl, Below.refl _ _⟩
  case round =>
    obtain ⟨k, hk, rfl, hbl⟩ := hrel
    by_cases hlt : k < xs.length
    · have hq : (k : Int) < (xs.length : Int) := by omega
      have hat := List.getElem?_eq_getElem hlt
      generalize xs[k] = f at hat
      obtain ⟨b3, o3, ad3, l3, c3, hix3, hb3, e0, hrd3⟩ := HA.out.at_ cfgE k f hat
      obtain ⟨b4, o4, ad4, l4, c4, hix4, hb4, d0, hrd4⟩ := HBB.out.at_ cfgE k f hat
      have k0 : ∀ p : Later wr, p.val.cell? ⟨b3, o3, none⟩ = some (.slice ad3 l3 c3) := fun p => below_cell (bnext hbl p.h) e0
      have k1 : ∀ p : Later wr, p.val.cell? ⟨b4, o4, none⟩ = some (.slice ad4 l4 c4) := fun p => below_cell (bnext hbl p.h) d0
      have HG := Lib.hid (fun p : Later wr => Calls.later (by have := rEqualConfig _ _ f f p.val (hrd3.below (bnext hbl p.h)) (hrd4.below (bnext hbl p.h)); rw [decide_eq_true rfl] at this; exact this))
      have HBL := Lib.hid hbl
      clear hat e0 d0 hrd3 hrd4 hbl
      go_wp2
      refine wp_region_later (by kernel_rfl) (by kernel_rfl) ?_
      repeat (go_big_quiet_step (first | (go_at_call 26; with_reducible exact HG.out _)))
      refine wpQuiet_nil ?_
      rintro _ ⟨p', rfl⟩
      have HB3 := Lib.hid (bnext HBL.out p'.h)
      generalize p'.val = w3 at HB3 ⊢
      clear HG k0 k1 HBL
      go_wp2
      go_roundw
      case rel => exact ⟨k + 1, by omega, by go_num, HB3.out⟩
      case measure => simp [intOf]; omega
    · have hq : ¬ ((k : Int) < (xs.length : Int)) := by omega
      go_wp2
      go_ret
      exact ⟨rfl, hbl⟩

end Go.Proofs.YtejafpbobgkibaaGreat
