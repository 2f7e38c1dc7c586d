/-
  The calls of the kit's Valid at a list of configurations, of the law's same, and of the reference's All. Conditions: what comes in reads.
-/
import Derived.Test.YtkgkhofkhjgnbaaGreatIRAl
import Derived.Test.YtkgkhofkhjgnbaaGreatKI
namespace Go.Proofs.YtkgkhofkhjgnbaaGreat
open Go.RowKit Go.Joins Go.Shelf
open JM (Chg)
open CM (Fp)
open VM (Ent)

/-- All are valid, and agree with those ahead of them. -/
def VldK (ls : List (List Fp)) (i k : Nat) : Prop := (∀ j f, ls[j]? = some f → j < i → CM.Ok f) ∧ (∀ (a b : Nat) (f g : List Fp), ls[a]? = some f → ls[b]? = some g → b < a → a < i ∨ (a = i ∧ b < k) → CM.Agr f g)
def VPost (ls : List (List Fp)) (w : World) (e : Ending) (w' : World) : Prop := ∃ B : Bool, e = .returned (.bool B) ∧ (B = true → (∀ f ∈ ls, CM.Ok f) ∧ ∀ (a b : Nat) (f g : List Fp), ls[a]? = some f → ls[b]? = some g → b < a → CM.Agr f g) ∧ Below w.heap.size w w'
set_option maxRecDepth 100000 in
set_option maxHeartbeats 2000000 in
theorem rAll (va vb : Value) (fa fb : List Fp) (w : World) (h1 : RdF w va fa) (h2 : RdF w vb fb) (o1 : CM.Ok fa) (o2 : CM.Ok fb) (hag : CM.Agr fb fa) :
    Calls Tryz.prog 13 #[va, vb] w fun e w' => ∃ v, e = .returned v ∧ OwnLs (fun w' u x => OwnF w w.heap.size w' u x) 24 w.heap.size w' v (IM.all fa fb) ∧ Below w.heap.size w w' := by
  by_cases hc : CM.cons fb fa = true
  · have s1 := CM.vo_spec o1
    have s2 := CM.vo_spec o2
    have hab : ∀ a, CM.ct fa a ≤ CM.ct fb a := fun a => by
      by_cases hz : CM.ct fa a < 1
      · have := CM.ct_pos fb a; omega
      · have h3 := (o1.has a (CM.ct fa a) (by omega)).2 (Int.le_refl _)
        obtain ⟨f, hf, e1, e2⟩ := CM.hasK_iff.1 h3
        exact (o2.has a (CM.ct fa a) (by omega)).1 (CM.hasK_iff.2 ⟨f, CM.cons_iff.1 hc f hf, e1, e2⟩)
    have hM : ∀ a, ((IM.num (CM.ct fa a) (CM.ct fb a) : Nat) : Int) = CM.ct fb a - CM.ct fa a + 1 ∧ IM.num (CM.ct fa a) (CM.ct fb a) ≤ 4 := fun a => by
      have k1 := hab a
      have k2 := o2.ct3 a
      have k3 := CM.ct_pos fa a
      unfold IM.num; omega
    have e := IM.all_F0 hc
    rw [s1.2, s1.2, s1.2, s2.2, s2.2, s2.2] at e
    rw [e]
    exact rAllIn va vb fa fb w h1 h2 o1 o2 (by rw [CM.conk_cons hag]; exact hc) _ _ _ (hM 201).1 (hM 202).1 (hM 203).1 (hM 201).2 (hM 202).2 (hM 203).2
  · have e : IM.all fa fb = [] := by unfold IM.all IM.iv; rw [if_neg hc]; rfl
    have hcf : CM.conk fb fa = false := by rw [CM.conk_cons hag]; simpa using hc
    rw [e]
    have hct := rContains vb va fb fa w h2 h1
    rw [hcf] at hct
    have HCT := Lib.hid hct
    obtain ⟨a, ca, rfl, _, _⟩ := h1.shape
    obtain ⟨b, cb, rfl, _, _⟩ := h2.shape
    clear h1 h2 o1 o2 hc hcf e hag hct
    go_enter Tryz.func13, Tryz.ntmps13
    go_wp2_with fail
    refine HCT.out.mono ?_
    rintro e w1 ⟨rfl, hb⟩
    go_wp2
    go_ret
    exact ⟨_, rfl, OwnLs.nil _ _ _, hb⟩

end Go.Proofs.YtkgkhofkhjgnbaaGreat
