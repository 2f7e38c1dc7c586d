/-
  The mathematics of intervals: which parts an interval has, that each is there once, how many there are, the first and the last. No program. Conditions: the ends are valid, the greater contains the smaller.
  The mathematics of Span: sorted, each once; the reference's insertions give the same. No program. No conditions beyond those that each lemma names.
-/
import Derived.Test.YthfpafnljnnndaaGreatSI1
import Derived.Test.YthfpafnljnnndaaGreatSKJ
import Derived.Test.YthfpafnljnnndaaGreatSIVal
import Derived.Test.YthfpafnljnnndaaGreatSM1
namespace Go.Proofs.YthfpafnljnnndaaGreat.IM
open JM (Chg)
open CM (Fp)
open VM (Ent)

/-! ### Vectors between two -/
theorem mem_vs {lo hi : Int → Int} (h0 : ∀ a, 0 ≤ lo a) (h1 : ∀ a, hi a ≤ 3) : ∀ (j : Nat) (v : List Ent),
    v ∈ vs lo hi j ↔ VM.Val 0 v ∧ ∀ a : Int, (201 ≤ a ∧ a < 201 + (j : Int) → lo a ≤ VM.cnt v a ∧ VM.cnt v a ≤ hi a) ∧ (¬ (201 ≤ a ∧ a < 201 + (j : Int)) → VM.cnt v a = 0)
  | 0, v => by
    show v ∈ [[]] ↔ _
    rw [List.mem_singleton]
    constructor
    · rintro rfl
      exact ⟨VM.Val.nil 0, fun a => ⟨fun h => by omega, fun _ => rfl⟩⟩
    · rintro ⟨hv, h⟩
      exact VM.ext hv (VM.Val.nil 0) fun a => (h a).2 (by omega)
  | j + 1, v => by
    have ih := mem_vs h0 h1 j
    show v ∈ (vs lo hi j).flatMap _ ↔ _
    rw [List.mem_flatMap]
    have c0 := h0 (201 + (j : Int))
    have c1 := h1 (201 + (j : Int))
    constructor
    · rintro ⟨u, hu, hr⟩
      obtain ⟨i, hi', rfl⟩ := mem_row hr
      obtain ⟨hv, hb⟩ := (ih u).1 hu
      unfold num at hi'
      obtain ⟨w1, w2⟩ := VM.wi_spec (a := 201 + (j : Int)) (c := lo (201 + (j : Int)) + (i : Int)) (by omega) (by omega) (by omega) hv
      refine ⟨w1, fun a => ?_⟩
      rw [w2]
      have hba := hb a
      by_cases ha : 201 + (j : Int) = a
      · rw [if_pos ha]
        subst ha
        exact ⟨fun _ => by omega, fun hn => absurd (show 201 ≤ 201 + (j : Int) ∧ 201 + (j : Int) < 201 + ((j + 1 : Nat) : Int) by omega) hn⟩
      · rw [if_neg ha]
        exact ⟨fun h => hba.1 (by omega), fun h => hba.2 (by omega)⟩
    · rintro ⟨hv, hb⟩
      obtain ⟨w1, w2⟩ := VM.wi_spec (a := 201 + (j : Int)) (c := 0) (by omega) (by omega) (by omega) hv
      have hj := (hb (201 + (j : Int))).1 (by omega)
      refine ⟨VM.wi v (201 + (j : Int)) 0, (ih _).2 ⟨w1, fun a => ?_⟩, ?_⟩
      · rw [w2]
        by_cases ha : 201 + (j : Int) = a
        · rw [if_pos ha]; exact ⟨fun h => by omega, fun _ => rfl⟩
        · rw [if_neg ha]; exact ⟨fun h => (hb a).1 (by omega), fun h => (hb a).2 (by omega)⟩
      · refine List.mem_map.2 ⟨(VM.cnt v (201 + (j : Int)) - lo (201 + (j : Int))).toNat, List.mem_range.2 (by unfold num; omega), ?_⟩
        obtain ⟨x1, x2⟩ := VM.wi_spec (a := 201 + (j : Int)) (c := lo (201 + (j : Int)) + ((VM.cnt v (201 + (j : Int)) - lo (201 + (j : Int))).toNat : Int)) (by omega) (by omega) (by omega) w1
        refine VM.ext x1 hv fun a => ?_
        rw [x2, w2]
        by_cases ha : 201 + (j : Int) = a
        · rw [if_pos ha]; subst ha; omega
        · rw [if_neg ha, if_neg ha]
theorem vs_nodup {lo hi : Int → Int} (h0 : ∀ a, 0 ≤ lo a) (h1 : ∀ a, hi a ≤ 3) : ∀ j : Nat, (vs lo hi j).Pairwise (· ≠ ·)
  | 0 => List.pairwise_singleton _ _
  | j + 1 => by
    have ih := vs_nodup h0 h1 j
    have c0 := h0 (201 + (j : Int))
    have c1 := h1 (201 + (j : Int))
    show List.Pairwise _ ((vs lo hi j).flatMap _)
    rw [List.pairwise_flatMap]
    have hsp : ∀ u ∈ vs lo hi j, ∀ i : Nat, i < num (lo (201 + (j : Int))) (hi (201 + (j : Int))) → ∀ x, VM.cnt (VM.wi u (201 + (j : Int)) (lo (201 + (j : Int)) + (i : Int))) x = if 201 + (j : Int) = x then lo (201 + (j : Int)) + (i : Int) else VM.cnt u x := by
      intro u hu i hi'
      unfold num at hi'
      exact (VM.wi_spec (by omega) (by omega) (by omega) ((mem_vs h0 h1 j u).1 hu).1).2
    refine ⟨fun u hu => ?_, ?_⟩
    · unfold row
      rw [List.pairwise_map]
      refine List.Pairwise.imp_of_mem ?_ (List.pairwise_lt_range (n := num (lo (201 + (j : Int))) (hi (201 + (j : Int)))))
      intro a b ha hb hab he
      have e1 := hsp u hu a (List.mem_range.1 ha) (201 + (j : Int))
      have e2 := hsp u hu b (List.mem_range.1 hb) (201 + (j : Int))
      rw [he, e2, if_pos rfl, if_pos rfl] at e1
      omega
    · refine List.Pairwise.imp_of_mem ?_ ih
      intro a b ha hb hab x hx y hy he
      obtain ⟨i, hi', rfl⟩ := mem_row hx
      obtain ⟨k, hk, rfl⟩ := mem_row hy
      obtain ⟨va, ba⟩ := (mem_vs h0 h1 j a).1 ha
      obtain ⟨vb, bb⟩ := (mem_vs h0 h1 j b).1 hb
      refine hab (VM.ext va vb fun z => ?_)
      have e1 := hsp a ha i hi' z
      have e2 := hsp b hb k hk z
      rw [he, e2] at e1
      by_cases hz : 201 + (j : Int) = z
      · subst hz
        rw [(ba _).2 (by omega), (bb _).2 (by omega)]
      · rw [if_neg hz, if_neg hz] at e1; exact e1.symm
theorem step_len (L : List (List Ent)) (a lo hi : Int) : (step L a lo hi).length = L.length * num lo hi := by
  unfold step
  induction L with
  | nil => simp
  | cons v L ih => rw [List.flatMap_cons, List.length_append, ih, List.length_cons, Nat.add_mul]; simp [row]; omega
theorem vs_len (lo hi : Int → Int) : (vs lo hi 3).length = num (lo 201) (hi 201) * num (lo 202) (hi 202) * num (lo 203) (hi 203) := by
  have e : vs lo hi 3 = step (step (step [[]] 201 (lo 201) (hi 201)) 202 (lo 202) (hi 202)) 203 (lo 203) (hi 203) := rfl
  rw [e, step_len, step_len, step_len]
  simp
theorem step_head {L : List (List Ent)} {a lo hi : Int} {v : List Ent} (h : L.head? = some v) (hlh : lo ≤ hi) : (step L a lo hi).head? = some (VM.wi v a lo) := by
  obtain ⟨r, rfl⟩ : ∃ r, L = v :: r := by
    cases L with
    | nil => cases h
    | cons x r => cases h; exact ⟨r, rfl⟩
  unfold step
  rw [List.flatMap_cons]
  obtain ⟨m, hm⟩ : ∃ m, num lo hi = m + 1 := ⟨num lo hi - 1, by unfold num; omega⟩
  rw [hm]
  unfold row
  rw [List.range_succ_eq_map]
  simp
theorem step_last {L : List (List Ent)} {a lo hi : Int} {v : List Ent} (h : L.getLast? = some v) (hlh : lo ≤ hi) : (step L a lo hi).getLast? = some (VM.wi v a hi) := by
  obtain ⟨r, rfl⟩ : ∃ r, L = r ++ [v] := List.getLast?_eq_some_iff.1 h
  unfold step
  rw [List.flatMap_append]
  obtain ⟨m, hm⟩ : ∃ m, num lo hi = m + 1 := ⟨num lo hi - 1, by unfold num; omega⟩
  have hh : lo + (m : Int) = hi := by unfold num at hm; omega
  rw [hm, List.flatMap_cons, List.flatMap_nil, List.append_nil, row_snoc, ← List.append_assoc, List.getLast?_concat, hh]
theorem vs_ends {lo hi : Int → Int} (h0 : ∀ a, 0 ≤ lo a) (h1 : ∀ a, hi a ≤ 3) (hab : ∀ a, lo a ≤ hi a) (hz : ∀ a : Int, ¬ (201 ≤ a ∧ a < 204) → lo a = 0 ∧ hi a = 0) :
    ∃ u v, (vs lo hi 3).head? = some u ∧ (vs lo hi 3).getLast? = some v ∧ (∀ a, VM.cnt u a = lo a) ∧ ∀ a, VM.cnt v a = hi a := by
  have e : vs lo hi 3 = step (step (step [[]] 201 (lo 201) (hi 201)) 202 (lo 202) (hi 202)) 203 (lo 203) (hi 203) := rfl
  have k1 := h0 201; have k2 := h0 202; have k3 := h0 203
  have l1 := h1 201; have l2 := h1 202; have l3 := h1 203
  have m1 := hab 201; have m2 := hab 202; have m3 := hab 203
  obtain ⟨a1, a2⟩ := VM.wi_spec (a := 201) (c := lo 201) (by omega) (by omega) (by omega) (VM.Val.nil 0)
  obtain ⟨b1, b2⟩ := VM.wi_spec (a := 202) (c := lo 202) (by omega) (by omega) (by omega) a1
  obtain ⟨c1, c2⟩ := VM.wi_spec (a := 203) (c := lo 203) (by omega) (by omega) (by omega) b1
  obtain ⟨d1, d2⟩ := VM.wi_spec (a := 201) (c := hi 201) (by omega) (by omega) (by omega) (VM.Val.nil 0)
  obtain ⟨e1, e2⟩ := VM.wi_spec (a := 202) (c := hi 202) (by omega) (by omega) (by omega) d1
  obtain ⟨f1, f2⟩ := VM.wi_spec (a := 203) (c := hi 203) (by omega) (by omega) (by omega) e1
  refine ⟨_, _, by rw [e]; exact step_head (step_head (step_head (v := []) rfl m1) m2) m3, by rw [e]; exact step_last (step_last (step_last (v := []) rfl m1) m2) m3, fun a => ?_, fun a => ?_⟩
  · rw [c2, b2, a2]
    by_cases x3 : 203 = a
    · rw [if_pos x3, x3]
    by_cases x2 : 202 = a
    · rw [if_neg x3, if_pos x2, x2]
    by_cases x1 : 201 = a
    · rw [if_neg x3, if_neg x2, if_pos x1, x1]
    rw [if_neg x3, if_neg x2, if_neg x1, (hz a (by omega)).1]; rfl
  · rw [f2, e2, d2]
    by_cases x3 : 203 = a
    · rw [if_pos x3, x3]
    by_cases x2 : 202 = a
    · rw [if_neg x3, if_pos x2, x2]
    by_cases x1 : 201 = a
    · rw [if_neg x3, if_neg x2, if_pos x1, x1]
    rw [if_neg x3, if_neg x2, if_neg x1, (hz a (by omega)).2]; rfl

/-! ### Parts -/
theorem ct_out {fs : List Fp} (h : CM.Ok fs) (a : Int) (ha : ¬ (201 ≤ a ∧ a < 204)) : CM.ct fs a = 0 := by
  unfold CM.ct
  rw [List.filter_eq_nil_iff.2 (fun f hf => by
    have := CM.errF_num (h.all f hf)
    simp; omega)]
  rfl
theorem ct_mono {a b : List Fp} (ha : CM.Ok a) (hb : CM.Ok b) (h : CM.cons b a = true) (c : Int) : CM.ct a c ≤ CM.ct b c := by
  by_cases hz : CM.ct a c < 1
  · have := CM.ct_pos b c; omega
  · have h3 := (ha.has c (CM.ct a c) (by omega)).2 (Int.le_refl _)
    obtain ⟨f, hf, e1, e2⟩ := CM.hasK_iff.1 h3
    exact (hb.has c (CM.ct a c) (by omega)).1 (CM.hasK_iff.2 ⟨f, CM.cons_iff.1 h f hf, e1, e2⟩)
theorem mem_le {a : List Fp} (ha : CM.Ok a) {f : Fp} (hf : f ∈ a) : f.2.1 ≤ CM.ct a f.1 := by
  have := CM.errF_num (ha.all f hf)
  exact (ha.has f.1 f.2.1 (by omega)).1 (CM.hasK_iff.2 ⟨f, hf, rfl, rfl⟩)
theorem ct_part {p : List Fp} (h : CM.Ok p) (g : Int → Int) (c : Int) (h0 : 0 ≤ g c) (h1 : g c ≤ CM.ct p c) : CM.ct (CM.rs p g) c = g c := by
  have x0 := CM.ct_pos (CM.rs p g) c
  have hX : CM.ct (CM.rs p g) c ≤ g c := by
    by_cases h2 : 1 ≤ CM.ct (CM.rs p g) c
    · exact ((CM.le_ct h g c _ h2).1 (Int.le_refl _)).2
    · omega
  have hY : g c ≤ CM.ct (CM.rs p g) c := by
    by_cases h2 : 1 ≤ g c
    · obtain ⟨f, hf, e1, e2⟩ := CM.hasK_iff.1 ((h.has c (g c) h2).2 h1)
      exact (CM.le_ct h g c _ h2).2 ⟨⟨f, hf, e1, e2⟩, Int.le_refl _⟩
    · omega
  omega
/-- What is contained is a part. -/
theorem rs_sub {a b : List Fp} (ha : CM.Ok a) (hb : CM.Ok b) (h : CM.cons b a = true) : CM.rs b (CM.ct a) = a := by
  refine CM.srt_ext (hb.rs _).srt ha.srt fun f => ?_
  rw [CM.rs_mem]
  constructor
  · rintro ⟨hf, hl⟩
    have := CM.errF_num (hb.all f hf)
    obtain ⟨f', hf', e1, e2⟩ := CM.hasK_iff.1 ((ha.has f.1 f.2.1 (by omega)).2 hl)
    rw [hb.srt.key hf (CM.cons_iff.1 h f' hf') ⟨e1.symm, e2.symm⟩]
    exact hf'
  · intro hf
    exact ⟨CM.cons_iff.1 h f hf, mem_le ha hf⟩
theorem all_nil {fa fb : List Fp} (hc : CM.cons fb fa = false) : all fa fb = [] := by unfold all iv; rw [if_neg (by rw [hc]; decide)]; rfl
section
variable {fa fb : List Fp} (o1 : CM.Ok fa) (o2 : CM.Ok fb)
include o1 o2
theorem iv_mem (hc : CM.cons fb fa = true) (v : List Ent) : v ∈ iv fa fb ↔ VM.Val 0 v ∧ ∀ a, CM.ct fa a ≤ VM.cnt v a ∧ VM.cnt v a ≤ CM.ct fb a := by
  have s1 := CM.vo_spec o1
  have s2 := CM.vo_spec o2
  unfold iv
  rw [if_pos hc, mem_vs (fun a => by rw [s1.2]; exact CM.ct_pos _ _) (fun a => by rw [s2.2]; exact o2.ct3 a) 3]
  refine and_congr Iff.rfl (forall_congr' fun a => ?_)
  rw [s1.2, s2.2]
  have z1 := ct_out o1 a
  have z2 := ct_out o2 a
  constructor
  · rintro ⟨h1, h2⟩
    by_cases ha : 201 ≤ a ∧ a < 204
    · exact h1 (by omega)
    · have := z1 ha; have := z2 ha; have := h2 (by omega); omega
  · intro h
    exact ⟨fun _ => h, fun hn => by have := z1 (by omega); have := z2 (by omega); omega⟩
theorem all_mem (hc : CM.cons fb fa = true) (x : List Fp) : x ∈ all fa fb ↔ CM.Ok x ∧ CM.cons x fa = true ∧ CM.cons fb x = true := by
  unfold all
  rw [List.mem_map]
  constructor
  · rintro ⟨v, hv, rfl⟩
    obtain ⟨_, hb⟩ := (iv_mem o1 o2 hc v).1 hv
    refine ⟨o2.rs _, CM.cons_iff.2 fun f hf => CM.rs_mem.2 ⟨CM.cons_iff.1 hc f hf, ?_⟩, CM.cons_iff.2 fun f hf => (CM.rs_mem.1 hf).1⟩
    have := mem_le o1 hf
    have := (hb f.1).1
    omega
  · rintro ⟨hx, h1, h2⟩
    have sx := CM.vo_spec hx
    refine ⟨CM.vo x, (iv_mem o1 o2 hc _).2 ⟨sx.1, fun a => ?_⟩, ?_⟩
    · rw [sx.2]; exact ⟨ct_mono o1 hx h1 a, ct_mono hx o2 h2 a⟩
    · rw [show VM.cnt (CM.vo x) = CM.ct x from funext sx.2]; exact rs_sub hx o2 h2
theorem all_within (x : List Fp) (hx : x ∈ all fa fb) : CM.Ok x ∧ CM.cons x fa = true ∧ CM.cons fb x = true := by
  cases hc : CM.cons fb fa with
  | true => exact (all_mem o1 o2 hc x).1 hx
  | false => rw [all_nil hc] at hx; cases hx
theorem all_iff (x : List Fp) (ox : CM.Ok x) : x ∈ all fa fb ↔ CM.cons x fa = true ∧ CM.cons fb x = true := by
  constructor
  · intro h; exact (all_within o1 o2 x h).2
  · rintro ⟨h1, h2⟩
    have hc : CM.cons fb fa = true := CM.cons_iff.2 fun f hf => CM.cons_iff.1 h2 f (CM.cons_iff.1 h1 f hf)
    exact (all_mem o1 o2 hc x).2 ⟨ox, h1, h2⟩
theorem all_nodup : (all fa fb).Pairwise (· ≠ ·) := by
  cases hc : CM.cons fb fa with
  | false => rw [all_nil hc]; exact List.Pairwise.nil
  | true =>
    have s1 := CM.vo_spec o1
    have s2 := CM.vo_spec o2
    have hn : (iv fa fb).Pairwise (· ≠ ·) := by
      unfold iv
      rw [if_pos hc]
      exact vs_nodup (fun a => by rw [s1.2]; exact CM.ct_pos _ _) (fun a => by rw [s2.2]; exact o2.ct3 a) 3
    unfold all
    rw [List.pairwise_map]
    refine List.Pairwise.imp_of_mem ?_ hn
    intro u v hu hv huv he
    obtain ⟨u1, u2⟩ := (iv_mem o1 o2 hc u).1 hu
    obtain ⟨v1, v2⟩ := (iv_mem o1 o2 hc v).1 hv
    refine huv (VM.ext u1 v1 fun a => ?_)
    have p1 := CM.ct_pos fa a
    have e1 := ct_part o2 (VM.cnt u) a (by have := u2 a; omega) (u2 a).2
    have e2 := ct_part o2 (VM.cnt v) a (by have := v2 a; omega) (v2 a).2
    rw [he, e2] at e1
    exact e1.symm
theorem all_len (hc : CM.cons fb fa = true) : ((all fa fb).length : Int) = (CM.ct fb 201 - CM.ct fa 201 + 1) * (CM.ct fb 202 - CM.ct fa 202 + 1) * (CM.ct fb 203 - CM.ct fa 203 + 1) := by
  have s1 := CM.vo_spec o1
  have s2 := CM.vo_spec o2
  unfold all iv
  rw [if_pos hc, List.length_map, vs_len, s1.2, s1.2, s1.2, s2.2, s2.2, s2.2]
  have m1 := ct_mono o1 o2 hc 201
  have m2 := ct_mono o1 o2 hc 202
  have m3 := ct_mono o1 o2 hc 203
  have hn : ∀ lo hi : Int, lo ≤ hi → ((num lo hi : Nat) : Int) = hi - lo + 1 := fun lo hi h => by unfold num; omega
  rw [Int.natCast_mul, Int.natCast_mul, hn _ _ m1, hn _ _ m2, hn _ _ m3]
theorem all_ends (hc : CM.cons fb fa = true) : (all fa fb).head? = some fa ∧ (all fa fb).getLast? = some fb := by
  have s1 := CM.vo_spec o1
  have s2 := CM.vo_spec o2
  obtain ⟨u, v, h1, h2, h3, h4⟩ := vs_ends (lo := VM.cnt (CM.vo fa)) (hi := VM.cnt (CM.vo fb)) (fun a => by rw [s1.2]; exact CM.ct_pos _ _) (fun a => by rw [s2.2]; exact o2.ct3 a) (fun a => by rw [s1.2, s2.2]; exact ct_mono o1 o2 hc a)
    (fun a ha => by rw [s1.2, s2.2]; exact ⟨ct_out o1 a ha, ct_out o2 a ha⟩)
  unfold all iv
  rw [if_pos hc, List.head?_map, List.getLast?_map, h1, h2]
  have e1 : VM.cnt u = CM.ct fa := funext fun a => by rw [h3, s1.2]
  have e2 : VM.cnt v = CM.ct fb := funext fun a => by rw [h4, s2.2]
  refine ⟨?_, ?_⟩
  · show some (CM.rs fb (VM.cnt u)) = _; rw [e1, rs_sub o1 o2 hc]
  · show some (CM.rs fb (VM.cnt v)) = _; rw [e2, rs_sub o2 o2 (CM.cons_iff.2 fun f hf => hf)]
end
end Go.Proofs.YthfpafnljnnndaaGreat.IM

namespace Go.Proofs.YthfpafnljnnndaaGreat
open Go.RowKit Go.Joins Go.Shelf
open JM (Chg)
open CM (Fp)
open MM (Mem Ent Sm Tri)

namespace IM
/-! ### Sorted, each once -/
theorem compact_spec (zs : List Int) : MM.Srt MM.kI (Lib.compact (srtI zs)) ∧ ∀ x, x ∈ Lib.compact (srtI zs) ↔ x ∈ zs := by
  have hs : (srtI zs).Pairwise (fun a b => a ≤ b) := by
    have h2 := List.pairwise_mergeSort (le := fun x y : Int => decide (x ≤ y)) (by intro a b c h1 h2; simp at *; omega) (by intro a b; simp; omega) zs
    exact h2.imp fun h => of_decide_eq_true h
  have hp : ∀ x, x ∈ srtI zs ↔ x ∈ zs := fun x => (List.mergeSort_perm zs _).mem_iff
  generalize srtI zs = ys at hs hp
  have key : ∀ m, m ≤ ys.length → MM.Srt MM.kI (Lib.compactUpTo ys.toArray m) ∧ ∀ x, x ∈ Lib.compactUpTo ys.toArray m ↔ x ∈ ys.take m := by
    intro m
    induction m with
    | zero => intro _; exact ⟨List.Pairwise.nil, fun x => by simp [Lib.compactUpTo]⟩
    | succ m ih =>
      intro hm
      obtain ⟨i1, i2⟩ := ih (by omega)
      rw [Lib.compactUpTo_succ]
      have hg : ys.toArray[m]! = ys[m]'(by omega) := by rw [getElem!_pos _ m (by simp; omega)]; simp
      have htk : ys.take (m + 1) = ys.take m ++ [ys[m]'(by omega)] := List.take_succ_eq_append_getElem (by omega)
      have hle : ∀ x ∈ ys.take m, x ≤ ys[m]'(by omega) := by
        intro x hx
        obtain ⟨i, hi, rfl⟩ := List.getElem_of_mem hx
        rw [List.length_take] at hi
        rw [List.getElem_take]
        exact List.pairwise_iff_getElem.1 hs i m (by omega) (by omega) (by omega)
      rw [hg, htk]
      by_cases hk : Lib.keeps ys.toArray m = true
      · rw [if_pos hk]
        have hne : ∀ x ∈ ys.take m, x < ys[m]'(by omega) := by
          intro x hx
          have h1 := hle x hx
          have hm0 : 0 < m := by
            rcases Nat.eq_zero_or_pos m with h | h
            · subst h; simp at hx
            · exact h
          have hk2 : ys[m - 1]'(by omega) ≠ ys[m]'(by omega) := by
            intro he
            unfold Lib.keeps at hk
            rw [getElem!_pos _ m (by simp; omega), getElem!_pos _ (m - 1) (by simp; omega)] at hk
            simp only [List.getElem_toArray] at hk
            simp [he] at hk
            omega
          have h3 : x ≤ ys[m - 1]'(by omega) := by
            obtain ⟨i, hi, rfl⟩ := List.getElem_of_mem hx
            rw [List.length_take] at hi
            rw [List.getElem_take]
            by_cases hi2 : i = m - 1
            · subst hi2; exact Int.le_refl _
            · exact List.pairwise_iff_getElem.1 hs i (m - 1) (by omega) (by omega) (by omega)
          have h4 := List.pairwise_iff_getElem.1 hs (m - 1) m (by omega) (by omega) (by omega)
          omega
        refine ⟨List.pairwise_append.2 ⟨i1, by simp, fun a ha b hb => ?_⟩, fun x => ?_⟩
        · obtain rfl : b = ys[m]'(by omega) := by simpa using hb
          exact hne a ((i2 a).1 ha)
        · rw [List.mem_append, List.mem_append, i2]
      · rw [if_neg hk, List.append_nil]
        have hmem : ys[m]'(by omega) ∈ ys.take m := by
          have hk3 : m ≠ 0 ∧ ys[m - 1]'(by omega) = ys[m]'(by omega) := by
            unfold Lib.keeps at hk
            rw [getElem!_pos _ m (by simp; omega), getElem!_pos _ (m - 1) (by simp; omega)] at hk
            simp only [List.getElem_toArray] at hk
            simp at hk
            exact ⟨hk.1, hk.2.symm⟩
          rw [← hk3.2]
          exact List.mem_take_iff_getElem.2 ⟨m - 1, by omega, rfl⟩
        refine ⟨i1, fun x => ?_⟩
        rw [i2, List.mem_append]
        constructor
        · exact Or.inl
        · rintro (h | h)
          · exact h
          · rw [List.mem_singleton] at h; rw [h]; exact hmem
  have := key ys.length (Nat.le_refl _)
  rw [List.take_length] at this
  exact ⟨this.1, fun x => by show x ∈ Lib.compactUpTo ys.toArray ys.length ↔ _; rw [this.2, hp]⟩
theorem fold_ins {l a : List Int} (h : MM.Srt MM.kI a) : MM.Srt MM.kI (l.foldl (fun o x => MM.insI x o) a) ∧ ∀ x, x ∈ l.foldl (fun o x => MM.insI x o) a ↔ x ∈ a ∨ x ∈ l := by
  induction l generalizing a with
  | nil => exact ⟨h, fun x => by simp⟩
  | cons y l ih =>
    obtain ⟨h1, h2⟩ := ih (show MM.Srt MM.kI (MM.insI y a) from MM.ins_srt MM.kI MM.fstI MM.hkI y h)
    refine ⟨h1, fun x => ?_⟩
    rw [List.foldl_cons, h2, MM.mem_insI h, List.mem_cons]
    constructor
    · rintro ((h | h) | h)
      · exact .inl h
      · exact .inr (.inl h)
      · exact .inr (.inr h)
    · rintro (h | h | h)
      · exact .inl (.inl h)
      · exact .inl (.inr h)
      · exact .inr h
/-- What the reference's Span has when the list l is done. -/
def sp (l : List Int) : List Int := l.foldl (fun o x => MM.insI x o) []
theorem sp_srt (l : List Int) : MM.Srt MM.kI (sp l) := (fold_ins List.Pairwise.nil).1
theorem sp_mem (l : List Int) (x : Int) : x ∈ sp l ↔ x ∈ l := by have := (fold_ins (l := l) (a := []) List.Pairwise.nil).2 x; simpa [sp] using this
theorem sp_eq (l : List Int) : sp l = Lib.compact (srtI l) := MM.srtI_ext (sp_srt l) (compact_spec l).1 fun x => by rw [sp_mem, (compact_spec l).2]
theorem sp_len (l : List Int) (h : l.length ≤ 1000000) : (sp l).length ≤ 1000000 := by rw [sp_eq]; exact Nat.le_trans (compact_le _) (by show (l.mergeSort _).length ≤ _; rw [List.length_mergeSort]; exact h)
theorem sp_snoc (l : List Int) (x : Int) : sp (l ++ [x]) = MM.insI x (sp l) := by unfold sp; rw [List.foldl_append]; rfl
end IM
end Go.Proofs.YthfpafnljnnndaaGreat
