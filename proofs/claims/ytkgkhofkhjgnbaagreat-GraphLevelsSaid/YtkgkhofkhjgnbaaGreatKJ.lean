/-
  Valid lists: the calls of config's Union, Contains, Meet, Vector. No conditions beyond that the lists are valid.
  Parts of one pool: the mathematics of their unions, meets and vectors; the calls over them. Conditions: the pool is valid; what comes in reads.
-/
import Derived.Test.YtkgkhofkhjgnbaaGreatTB2
import Derived.Test.YtkgkhofkhjgnbaaGreatKI
import Derived.Test.YtkgkhofkhjgnbaaGreatKH
namespace Go.Proofs.YtkgkhofkhjgnbaaGreat
open Go.RowKit Go.Joins
open JM (Chg)
open CM (Fp)
open VM (Ent)

theorem oUnion (va vb : Value) (xs ys : List Fp) (w : World) (ha : RdF w va xs) (hb : RdF w vb ys) (hx : CM.Ok xs) (hy : CM.Ok ys) :
    Calls Tryz.prog 62 #[va, vb] w fun e w' => ∃ v', e = .returned v' ∧ RdF w' v' (CM.un xs ys) ∧ Below w.heap.size w w' :=
  gUnion va vb xs ys w ha hb (by have := hx.nine; omega) (by have := hy.nine; omega) (all_len hx.all) (all_len hy.all)
theorem oContains (va vb : Value) (xs ys : List Fp) (w : World) (ha : RdF w va xs) (hb : RdF w vb ys) (hx : CM.Ok xs) :
    Calls Tryz.prog 58 #[va, vb] w fun e w' => e = .returned (.bool (CM.cons xs ys)) ∧ Below w.heap.size w w' :=
  gContains va vb xs ys w ha hb hx.srt (by have := hx.nine; omega)
theorem oVector (v : Value) (xs : List Fp) (w : World) (h : RdF w v xs) (hx : CM.Ok xs) :
    Calls Tryz.prog 75 #[v] w fun e w' => ∃ v', e = .returned v' ∧ OwnE w.heap.size w' v' (CM.vo xs) ∧ Below w.heap.size w w' :=
  gVector v xs w h (by have := hx.nine; omega)

end Go.Proofs.YtkgkhofkhjgnbaaGreat

namespace Go.Proofs.YtkgkhofkhjgnbaaGreat
open Go.RowKit
open JM (Chg)
open CM (Fp)
open VM (Ent)

namespace CM
def mx (g k : Int → Int) : Int → Int := fun a => max (g a) (k a)
def mn (g k : Int → Int) : Int → Int := fun a => min (g a) (k a)
theorem mx_comm (g k : Int → Int) : mx g k = mx k g := by funext a; unfold mx; omega
theorem mx_assoc (g k l : Int → Int) : mx (mx g k) l = mx g (mx k l) := by funext a; unfold mx; omega
theorem mx_self (g : Int → Int) : mx g g = g := by funext a; unfold mx; omega
theorem mn_mx (g k : Int → Int) : mn g (mx g k) = g := by funext a; unfold mn mx; omega
theorem mn_dist (c g k : Int → Int) : mn c (mx g k) = mx (mn c g) (mn c k) := by funext a; show min (c a) (max (g a) (k a)) = max (min (c a) (g a)) (min (c a) (k a)); omega
theorem le_ct {p : List Fp} (h : Ok p) (g : Int → Int) (c n : Int) (hn : 1 ≤ n) : n ≤ ct (rs p g) c ↔ (∃ f ∈ p, f.1 = c ∧ f.2.1 = n) ∧ n ≤ g c := by
  rw [← (h.rs g).has c n hn, hasK_iff]
  constructor
  · rintro ⟨f, hf, rfl, rfl⟩
    obtain ⟨h1, h2⟩ := rs_mem.1 hf
    exact ⟨⟨f, h1, rfl, rfl⟩, h2⟩
  · rintro ⟨⟨f, hf, rfl, rfl⟩, h2⟩
    exact ⟨f, rs_mem.2 ⟨hf, h2⟩, rfl, rfl⟩
theorem ct_mx {p : List Fp} (h : Ok p) (g k : Int → Int) (c : Int) : ct (rs p (mx g k)) c = max (ct (rs p g) c) (ct (rs p k) c) := by
  have x0 := ct_pos (rs p (mx g k)) c
  have y0 := ct_pos (rs p g) c
  have z0 := ct_pos (rs p k) c
  have hX : ct (rs p (mx g k)) c ≤ max (ct (rs p g) c) (ct (rs p k) c) := by
    by_cases h1 : 1 ≤ ct (rs p (mx g k)) c
    · obtain ⟨e, h2⟩ := (le_ct h (mx g k) c _ h1).1 (Int.le_refl _)
      unfold mx at h2
      by_cases h3 : ct (rs p (mx g k)) c ≤ g c
      · have := (le_ct h g c _ h1).2 ⟨e, h3⟩; unfold mx at *; omega
      · have := (le_ct h k c _ h1).2 ⟨e, by unfold mx at *; omega⟩; unfold mx at *; omega
    · omega
  have hY : ct (rs p g) c ≤ ct (rs p (mx g k)) c := by
    by_cases h1 : 1 ≤ ct (rs p g) c
    · obtain ⟨e, h2⟩ := (le_ct h g c _ h1).1 (Int.le_refl _)
      exact (le_ct h (mx g k) c _ h1).2 ⟨e, by unfold mx; omega⟩
    · omega
  have hZ : ct (rs p k) c ≤ ct (rs p (mx g k)) c := by
    by_cases h1 : 1 ≤ ct (rs p k) c
    · obtain ⟨e, h2⟩ := (le_ct h k c _ h1).1 (Int.le_refl _)
      exact (le_ct h (mx g k) c _ h1).2 ⟨e, by unfold mx; omega⟩
    · omega
  omega
theorem ct_mn {p : List Fp} (h : Ok p) (g k : Int → Int) (c : Int) : ct (rs p (mn g k)) c = min (ct (rs p g) c) (ct (rs p k) c) := by
  have x0 := ct_pos (rs p (mn g k)) c
  have y0 := ct_pos (rs p g) c
  have z0 := ct_pos (rs p k) c
  have hX : ct (rs p (mn g k)) c ≤ ct (rs p g) c ∧ ct (rs p (mn g k)) c ≤ ct (rs p k) c := by
    by_cases h1 : 1 ≤ ct (rs p (mn g k)) c
    · obtain ⟨e, h2⟩ := (le_ct h (mn g k) c _ h1).1 (Int.le_refl _)
      have h3 : ct (rs p (mn g k)) c ≤ g c ∧ ct (rs p (mn g k)) c ≤ k c := by
        have : ct (rs p (mn g k)) c ≤ min (g c) (k c) := h2
        omega
      exact ⟨(le_ct h g c _ h1).2 ⟨e, h3.1⟩, (le_ct h k c _ h1).2 ⟨e, h3.2⟩⟩
    · omega
  have hY : min (ct (rs p g) c) (ct (rs p k) c) ≤ ct (rs p (mn g k)) c := by
    obtain ⟨m, hm⟩ : ∃ m, m = min (ct (rs p g) c) (ct (rs p k) c) := ⟨_, rfl⟩
    rw [← hm]
    by_cases h1 : 1 ≤ m
    · obtain ⟨e, h2⟩ := (le_ct h g c m h1).1 (by omega)
      obtain ⟨_, h3⟩ := (le_ct h k c m h1).1 (by omega)
      exact (le_ct h (mn g k) c m h1).2 ⟨e, by show m ≤ min (g c) (k c); omega⟩
    · omega
  omega
theorem vo_mx {p : List Fp} (h : Ok p) (g k : Int → Int) : vo (rs p (mx g k)) = VM.rj (vo (rs p g)) (vo (rs p k)) := by
  have h1 := vo_spec (h.rs (mx g k))
  have h2 := vo_spec (h.rs g)
  have h3 := vo_spec (h.rs k)
  have h4 := VM.rj_spec (Int.le_refl 0) h2.1 h3.1
  exact VM.ext h1.1 h4.1 (fun c => by rw [h1.2, h4.2, h2.2, h3.2, ct_mx h])
theorem vo_mn {p : List Fp} (h : Ok p) (g k : Int → Int) : vo (rs p (mn g k)) = VM.rm (vo (rs p k)) (vo (rs p g)) := by
  have h1 := vo_spec (h.rs (mn g k))
  have h2 := vo_spec (h.rs g)
  have h3 := vo_spec (h.rs k)
  have h4 := VM.rm_spec h3.1 h2.1
  exact VM.ext h1.1 h4.1 (fun c => by rw [h1.2, h4.2, h2.2, h3.2, ct_mn h])
theorem cons_le {p : List Fp} (h : Ok p) (g k : Int → Int) : cons (rs p g) (rs p k) = VM.le (vo (rs p k)) (vo (rs p g)) := by
  have h2 := vo_spec (h.rs g)
  have h3 := vo_spec (h.rs k)
  rw [Bool.eq_iff_iff, VM.le_iff h3.1 h2.1, cons_iff]
  constructor
  · intro h4 c
    rw [h2.2, h3.2]
    have z0 := ct_pos (rs p g) c
    by_cases h1 : 1 ≤ ct (rs p k) c
    · obtain ⟨f, hf, e1, e2⟩ := hasK_iff.1 (((h.rs k).has c _ h1).2 (Int.le_refl _))
      have h5 := h4 f hf
      exact ((h.rs g).has c _ h1).1 (hasK_iff.2 ⟨f, h5, e1, e2⟩)
    · omega
  · intro h4 f hf
    obtain ⟨hp, hk⟩ := rs_mem.1 hf
    have h5 := h4 f.1
    rw [h2.2, h3.2] at h5
    have h6 := (ct_rs h k hp).2 hk
    exact rs_mem.2 ⟨hp, (ct_rs h g hp).1 (by omega)⟩
theorem cons_mx1 (p : List Fp) (g k : Int → Int) : cons (rs p (mx g k)) (rs p g) = true := cons_iff.2 fun f hf => by
  obtain ⟨h1, h2⟩ := rs_mem.1 hf
  exact rs_mem.2 ⟨h1, by unfold mx; omega⟩
theorem cons_mx2 (p : List Fp) (g k : Int → Int) : cons (rs p (mx g k)) (rs p k) = true := cons_iff.2 fun f hf => by
  obtain ⟨h1, h2⟩ := rs_mem.1 hf
  exact rs_mem.2 ⟨h1, by unfold mx; omega⟩
theorem cons_both (p : List Fp) (c g k : Int → Int) (h1 : cons (rs p c) (rs p g) = true) (h2 : cons (rs p c) (rs p k) = true) : cons (rs p c) (rs p (mx g k)) = true := cons_iff.2 fun f hf => by
  obtain ⟨hp, h3⟩ := rs_mem.1 hf
  by_cases h4 : f.2.1 ≤ g f.1
  · exact cons_iff.1 h1 f (rs_mem.2 ⟨hp, h4⟩)
  · exact cons_iff.1 h2 f (rs_mem.2 ⟨hp, by unfold mx at h3; omega⟩)
theorem cons_un (p : List Fp) (g k : Int → Int) : decide (rs p (mx g k) = rs p g) = cons (rs p g) (rs p k) := by
  rw [Bool.eq_iff_iff, cons_iff, decide_eq_true_iff]
  constructor
  · intro h f hf
    rw [← h]
    exact cons_iff.1 (cons_mx2 p g k) f hf
  · intro h
    refine rs_ext (fun f hf => ?_)
    constructor
    · intro h1
      by_cases h4 : f.2.1 ≤ g f.1
      · exact h4
      · exact (rs_mem.1 (h f (rs_mem.2 ⟨hf, by unfold mx at h1; omega⟩))).2
    · intro h1; unfold mx; omega
theorem rs_vo {p : List Fp} (h : Ok p) (g : Int → Int) : rs p (VM.cnt (vo (rs p g))) = rs p g := by
  rw [show VM.cnt (vo (rs p g)) = ct (rs p g) from funext (vo_spec (h.rs g)).2, rs_ct h]
end CM

theorem pUnion (va vb : Value) (p : List Fp) (g k : Int → Int) (w : World) (h : CM.Ok p) (ha : RdF w va (CM.rs p g)) (hb : RdF w vb (CM.rs p k)) :
    Calls Tryz.prog 62 #[va, vb] w fun e w' => ∃ v', e = .returned v' ∧ RdF w' v' (CM.rs p (CM.mx g k)) ∧ Below w.heap.size w w' := by
  have := oUnion va vb _ _ w ha hb (h.rs g) (h.rs k)
  rw [CM.un_rs h.srt] at this
  exact this
theorem pEqual (va vb : Value) (xs ys : List Fp) (w : World) (ha : RdF w va xs) (hb : RdF w vb ys) (he : xs = ys) :
    Calls Tryz.prog 36 #[va, vb] w fun e w' => e = .returned (.bool true) ∧ Below w.heap.size w w' := by
  have := rEqualConfig va vb xs ys w ha hb
  rw [decide_eq_true he] at this
  exact this
theorem pValid (v : Value) (p : List Fp) (g : Int → Int) (w : World) (h : CM.Ok p) (ha : RdF w v (CM.rs p g)) :
    Calls Tryz.prog 103 #[v] w fun e w' => e = .returned (.int .i64 0) ∧ Below w.heap.size w w' := by
  have := gValidate v _ w ha
  rw [show CM.errL (0, 0) (CM.rs p g) = 0 from h.rs g] at this
  exact this
theorem pContains (va vb : Value) (p : List Fp) (g k : Int → Int) (w : World) (h : CM.Ok p) (ha : RdF w va (CM.rs p g)) (hb : RdF w vb (CM.rs p k)) :
    Calls Tryz.prog 58 #[va, vb] w fun e w' => e = .returned (.bool (CM.cons (CM.rs p g) (CM.rs p k))) ∧ Below w.heap.size w w' :=
  oContains va vb _ _ w ha hb (h.rs g)
theorem pVector (v : Value) (p : List Fp) (g : Int → Int) (w : World) (h : CM.Ok p) (ha : RdF w v (CM.rs p g)) :
    Calls Tryz.prog 75 #[v] w fun e w' => ∃ v', e = .returned v' ∧ OwnE w.heap.size w' v' (CM.vo (CM.rs p g)) ∧ Below w.heap.size w w' :=
  oVector v _ w ha (h.rs g)

end Go.Proofs.YtkgkhofkhjgnbaaGreat
