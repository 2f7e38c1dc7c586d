/-
  The calls of config.Union and the reference's Union: the merged list. Conditions: both configurations read and are of bounded length.
  The call of the reference's Union: the merged list. Conditions: both configurations read and are of bounded length.
  The calls of config.Vector and the reference's VectorOf: the number of proposals of each administrator. Conditions: the configuration reads and is valid.
  The calls of the reference's VectorOf, of config.Restrict, config.Meet and the reference's Restrict and Meet. Conditions: what comes in reads; the vector is valid.
-/
import Derived.Deep.LoopGhost
import Derived.Test.YtkaafbdhgekeeaaGreatKG
import Derived.Test.YtkaafbdhgekeeaaGreatKF
import Derived.StillTailTactics
namespace Go.Proofs.YtkaafbdhgekeeaaGreat
open Go.RowKit
open JM (Chg)
open CM (Fp)

/-- 'out = append(out, x)': all blocks but the list's own are as they were. -/
theorem wp_appG1B {α : Type} {P : Program} {t e : TypeId} {size bytes : Nat} {enc : α → List Value} {w : World} {ops : Array Oper} {rest : List Oper} {o : Oper} {a : Act} {Q : Exit → Act → World → Prop} {base : Nat} {v : Value} {ys : List α}
    (E : IsElem P t e size bytes enc) (x : α) (B : Nat) (hBw : B < w.heap.size) (hBv : v.ownBlock ≠ some B) (hgd : o.guard = none) (s r : Operand) (ho : o.op = .call { callee := .builtin .append, args := #[s, r], argTypes := #[t, t] })
    (hs : a.eval s = v) (hown : OwnG enc e size base w v ys) (hx : a.eval r = .slice (some ⟨w.heap.size, 0, none⟩) 1 1) (hlen : ys.length ≤ 1073741824) (hb : base ≤ w.heap.size)
    (h : ∀ v' w', OwnG enc e size base w' v' (ys ++ [x]) → Below base w w' → Hid (∀ ob, w.heap[B]? = some ob → w'.heap[B]? = some ob) → v'.ownBlock ≠ some B → w.heap.size ≤ w'.heap.size → wpList P ops Q rest (a.put o.dst v') w') :
    wpList P ops Q (o :: rest) a (w.alloc (.cells (enc x).toArray e)) := by
  obtain ⟨i0, z, hi, hz0, hz1, hz2, hz3⟩ := E.info
  refine wpList_append_own_at _ hgd s r t ho base e i0 z size bytes E.ht hi hz0 hz1 hz2 hz3 E.pos _ _ _ hs (World.ownsRow.alloc hown.1 _) ⟨w.heap.size, 0, none⟩ 1 1 (enc x) hx (by rw [E.len, Nat.one_mul]) ?_ (E.one x) ?_ ?_ ?_ ?_
  · intro j u hu
    rw [addr_plain, Nat.zero_add, World.cell?_alloc_new]
    simpa using hu
  · unfold maxLen; omega
  · have := E.fits
    calc (ys.length + 1) * bytes ≤ (1073741824 + 1) * 4096 := Nat.mul_le_mul (by omega) this
      _ ≤ 140737488355328 := by decide
  · simp; omega
  · intro v' w1 ho1 hg1 _ hat
    have hB := ((Below.refl _ _).alloc hb (.cells (enc x).toArray e)).grown hg1 (by simp; omega) (fun k hk => (World.ownsRow.lt hown.1 k hk).1)
    refine h v' w1 ⟨?_, hown.2⟩ hB ?_ ?_ hB.size
    · rw [cellsOf_append, List.length_append]
      simpa [cellsOf] using ho1
    · intro ob hob
      rw [hg1.block B (by simp; omega) hBv.symm, (below_fresh w _).block B hBw]
      exact hob
    · rcases hat with h1 | h1
      · rw [h1]; exact hBv
      · intro h2
        rw [h1] at h2
        injection h2 with h2
        simp at h2
        omega

/-- One more proposal in the call's own list. -/
theorem OwnF.snoc {w0 w' : World} {base : Nat} {v' : Value} {qs : List Pro} {fs : List Fp} {q : Pro} {f : Fp} (h : OwnQ base w' v' (qs ++ [q])) (ht : Tel w0 qs fs) (k : Tell1 w0 q f) : OwnF w0 base w' v' (fs ++ [f]) :=
  ⟨_, h, Tel.app ht (Tel.one k)⟩
theorem all_len {l : List Fp} (h : ∀ f ∈ l, CM.errF f = 0) : ∀ f ∈ l, f.2.2.length ≤ 1073741824 := fun f hf => by
  have := (JM.errP_small (h f hf)).2.2.1
  omega

end Go.Proofs.YtkaafbdhgekeeaaGreat

namespace Go.Proofs.YtkaafbdhgekeeaaGreat
open Go.RowKit
open JM (Chg)
open CM (Fp)

theorem OwnF.out {w0 w : World} {base : Nat} {v : Value} {fs : List Fp} (h : OwnF w0 base w v fs) : ∃ qs, OwnQ base w v qs ∧ Tel w0 qs fs ∧ qs.length = fs.length := by
  obtain ⟨qs, h1, h2⟩ := h
  exact ⟨qs, h1, h2, h2.len⟩

end Go.Proofs.YtkaafbdhgekeeaaGreat

namespace Go.Proofs.YtkaafbdhgekeeaaGreat
open Go.RowKit
open JM (Chg)
open CM (Fp)
open VM (Ent)

namespace CM
/-- One proposal more, as config.Vector counts it. -/
def vput (v : List Ent) (f : Fp) : List Ent := if v.length ≠ 0 ∧ (v.getD (v.length - 1) (0, 0)).1 = f.1 then v.set (v.length - 1) (f.1, (v.getD (v.length - 1) (0, 0)).2 + 1) else v ++ [(f.1, 1)]
def vo (fs : List Fp) : List Ent := fs.foldl vput []
theorem vo_snoc (fs : List Fp) (f : Fp) : vo (fs ++ [f]) = vput (vo fs) f := by unfold vo; rw [List.foldl_append]; rfl
theorem val_snoc {v : List Ent} : ∀ {p : Int} {e f : Ent}, VM.Val p (v ++ [e]) → e.1 < f.1 → 1 ≤ f.2 → f.2 ≤ 1000000 → VM.Val p (v ++ [e] ++ [f]) := by
  induction v with
  | nil => intro p e f h h1 h2 h3; exact ⟨h.1, h.2.1, h.2.2.1, h1, h2, h3, trivial⟩
  | cons g v ih => intro p e f h h1 h2 h3; exact ⟨h.1, h.2.1, h.2.2.1, ih h.2.2.2 h1 h2 h3⟩
theorem val_last {v : List Ent} : ∀ {p : Int} {e : Ent} {n : Int}, VM.Val p (v ++ [e]) → 1 ≤ n → n ≤ 1000000 → VM.Val p (v ++ [(e.1, n)]) := by
  induction v with
  | nil => intro p e n h h2 h3; exact ⟨h.1, h2, h3, trivial⟩
  | cons g v ih => intro p e n h h2 h3; exact ⟨h.1, h.2.1, h.2.2.1, ih h.2.2.2 h2 h3⟩
theorem cnt_snoc {v : List Ent} : ∀ {p : Int} {e : Ent} (c : Int), VM.Val p (v ++ [e]) → VM.cnt (v ++ [e]) c = if e.1 = c then e.2 else VM.cnt v c := by
  induction v with
  | nil => intro p e c _; rfl
  | cons g v ih =>
    intro p e c h
    have ih := ih (e := e) c h.2.2.2
    rw [List.cons_append, VM.cnt_cons, VM.cnt_cons, ih]
    by_cases hg : g.1 = c
    · rw [if_pos hg, if_pos hg, if_neg]
      intro he
      have := VM.val_get h.2.2.2 (show (v ++ [e])[v.length]? = some e by simp)
      omega
    · rw [if_neg hg, if_neg hg]
/-- Behind the first proposals of a valid list: the vector is valid, its last entry is the identifier before. -/
theorem vo_run {fs : List Fp} : ∀ {pr : Int × Int} {v : List Ent}, errL pr fs = 0 → ((v = [] ∧ pr = (0, 0)) ∨ ∃ v0, v = v0 ++ [pr]) → VM.Val 0 v →
    VM.Val 0 (fs.foldl vput v) ∧ ∀ a, VM.cnt (fs.foldl vput v) a = VM.cnt v a + ct fs a := by
  induction fs with
  | nil => intro pr v _ _ hv; exact ⟨hv, fun a => by rw [ct_nil, Int.add_zero]; rfl⟩
  | cons f r ih =>
    intro pr v h hv hval
    obtain ⟨h1, h2, h3, h4⟩ := errL_cons h
    have hf := errF_num h1
    have key : ∃ v1, vput v f = v1 ++ [(f.1, f.2.1)] ∧ VM.Val 0 (v1 ++ [(f.1, f.2.1)]) ∧ ∀ a, VM.cnt (vput v f) a = VM.cnt v a + (if f.1 = a then 1 else 0) := by
      rcases hv with ⟨rfl, rfl⟩ | ⟨v0, rfl⟩
      · have hn := next_of h (Int.le_refl _)
        simp only at hn
        have e : f.2.1 = 1 := by omega
        have e2 : vput [] f = [] ++ [(f.1, f.2.1)] := by unfold vput; rw [if_neg (by simp), e]
        refine ⟨[], e2, ⟨by show 0 < f.1; omega, by show 1 ≤ f.2.1; omega, by show f.2.1 ≤ 1000000; omega, trivial⟩, fun a => ?_⟩
        rw [e2]
        show (if f.1 = a then f.2.1 else 0) = 0 + _
        rw [e]; simp
      · have hlast : (v0 ++ [pr]).getD ((v0 ++ [pr]).length - 1) (0, 0) = pr := by simp [List.getD]
        have hgp := VM.val_get hval (show (v0 ++ [pr])[v0.length]? = some pr by simp)
        have hn := next_of h (by omega)
        by_cases hA : pr.1 = f.1
        · have e : f.2.1 = pr.2 + 1 := by omega
          have e2 : vput (v0 ++ [pr]) f = v0 ++ [(f.1, f.2.1)] := by
            unfold vput
            rw [hlast, if_pos ⟨by simp, hA⟩, e]
            simp [List.set_append_right]
          have hvv : VM.Val 0 (v0 ++ [(f.1, f.2.1)]) := by have := val_last (n := f.2.1) hval (by omega) (by omega); rw [hA] at this; exact this
          refine ⟨v0, e2, hvv, fun a => ?_⟩
          rw [e2, cnt_snoc a hvv, cnt_snoc a hval, hA, e]
          simp only
          split <;> omega
        · have e : f.2.1 = 1 := by omega
          have e2 : vput (v0 ++ [pr]) f = (v0 ++ [pr]) ++ [(f.1, f.2.1)] := by
            unfold vput
            rw [hlast, if_neg (fun hh => hA hh.2), e]
          have hvv : VM.Val 0 ((v0 ++ [pr]) ++ [(f.1, f.2.1)]) := val_snoc hval (by show pr.1 < f.1; omega) (by show 1 ≤ f.2.1; omega) (by show f.2.1 ≤ 1000000; omega)
          refine ⟨v0 ++ [pr], e2, hvv, fun a => ?_⟩
          rw [e2, cnt_snoc a hvv]
          simp only
          by_cases ha : f.1 = a
          · rw [if_pos ha, if_pos ha, e]
            have : VM.cnt (v0 ++ [pr]) a = 0 := by
              rw [cnt_snoc a hval, if_neg (by omega)]
              have hz : ∀ {u : List Ent} {p : Int}, VM.Val p (u ++ [pr]) → VM.cnt u a = 0 := by
                intro u
                induction u with
                | nil => intro p _; rfl
                | cons g u ihu =>
                  intro p hu
                  have := VM.val_get hu.2.2.2 (show (u ++ [pr])[u.length]? = some pr by simp)
                  rw [VM.cnt_cons, if_neg (by omega), ihu hu.2.2.2]
              exact hz hval
            omega
          · rw [if_neg ha, if_neg ha]; omega
    obtain ⟨v1, k1, k2, k3⟩ := key
    have := ih (pr := (f.1, f.2.1)) (v := vput v f) h4 (.inr ⟨v1, k1⟩) (by rw [k1]; exact k2)
    refine ⟨this.1, fun a => ?_⟩
    show VM.cnt (r.foldl vput (vput v f)) a = _
    rw [this.2 a, k3 a, ct_cons]
    omega
theorem vo_spec {fs : List Fp} (h : Ok fs) : VM.Val 0 (vo fs) ∧ ∀ a, VM.cnt (vo fs) a = ct fs a := by
  have := vo_run (v := []) h (.inl ⟨rfl, rfl⟩) trivial
  exact ⟨this.1, fun a => by rw [show vo fs = fs.foldl vput [] from rfl, this.2 a]; show 0 + _ = _; omega⟩
theorem vput_len (v : List Ent) (f : Fp) : (vput v f).length ≤ v.length + 1 := by unfold vput; split <;> simp
theorem fold_len {fs : List Fp} : ∀ (v : List Ent), (fs.foldl vput v).length ≤ v.length + fs.length := by
  induction fs with
  | nil => intro v; simp
  | cons f r ih => intro v; have := ih (vput v f); have := vput_len v f; simp only [List.foldl_cons, List.length_cons]; omega
theorem vo_len (fs : List Fp) : (vo fs).length ≤ fs.length := by
  have h : (fs.foldl vput []).length ≤ ([] : List Ent).length + fs.length := fold_len []
  rw [List.length_nil, Nat.zero_add] at h
  exact h
theorem vput_small {v : List Ent} {N : Int} (f : Fp) (hN : 0 ≤ N) (h : ∀ e ∈ v, 0 ≤ e.2 ∧ e.2 ≤ N) : ∀ e ∈ vput v f, 0 ≤ e.2 ∧ e.2 ≤ N + 1 := by
  intro e he
  unfold vput at he
  split at he
  · rename_i hc
    have hl : (v.getD (v.length - 1) (0, 0)) ∈ v := by
      have : v.length - 1 < v.length := by omega
      rw [List.getD, List.getElem?_eq_getElem this]; exact List.getElem_mem this
    rcases List.mem_or_eq_of_mem_set he with h1 | rfl
    · have := h e h1; omega
    · have := h _ hl; simp only; omega
  · rcases List.mem_append.1 he with h1 | h1
    · have := h e h1; omega
    · rw [List.mem_singleton] at h1; subst h1; simp only; omega
theorem vo_small (fs : List Fp) : ∀ e ∈ vo fs, 0 ≤ e.2 ∧ e.2 ≤ (fs.length : Int) := by
  obtain ⟨n, hn⟩ : ∃ n, n = fs.length := ⟨_, rfl⟩
  induction n generalizing fs with
  | zero => obtain rfl : fs = [] := List.eq_nil_of_length_eq_zero hn.symm
            intro e he; cases he
  | succ n ih =>
    rcases List.eq_nil_or_concat fs with rfl | ⟨g, f, rfl⟩
    · simp at hn
    · rw [List.concat_eq_append] at *
      rw [List.length_append, List.length_singleton] at hn
      rw [vo_snoc, List.length_append, List.length_singleton]
      have := vput_small f (N := (g.length : Int)) (by omega) (ih g (by omega))
      simpa using this
/-- The reference's counting. -/
def vr (fs : List Fp) : List Ent := fs.foldl (fun v f => VM.wi v f.1 (VM.cnt v f.1 + 1)) []
theorem vr_snoc (fs : List Fp) (f : Fp) : vr (fs ++ [f]) = VM.wi (vr fs) f.1 (VM.cnt (vr fs) f.1 + 1) := by unfold vr; rw [List.foldl_append]; rfl
theorem vr_spec {fs : List Fp} (h : ∀ x ∈ fs, errF x = 0) (hl : fs.length ≤ 1000) : VM.Val 0 (vr fs) ∧ (∀ a, VM.cnt (vr fs) a = ct fs a) ∧ (vr fs).length ≤ fs.length := by
  obtain ⟨n, hn⟩ : ∃ n, n = fs.length := ⟨_, rfl⟩
  induction n generalizing fs with
  | zero => obtain rfl : fs = [] := List.eq_nil_of_length_eq_zero hn.symm
            exact ⟨trivial, fun a => rfl, Nat.le_refl _⟩
  | succ n ih =>
    rcases List.eq_nil_or_concat fs with rfl | ⟨g, f, rfl⟩
    · simp at hn
    · rw [List.concat_eq_append] at *
      rw [List.length_append, List.length_singleton] at hn hl
      obtain ⟨i1, i2, i3⟩ := ih (fs := g) (fun x hx => h x (by simp [hx])) (by omega) (by omega)
      have hf := errF_num (h f (by simp))
      have hc := ct_pos g f.1
      have hcl := ct_len g f.1
      rw [vr_snoc]
      have hw := VM.wi_spec (a := f.1) (c := VM.cnt (vr g) f.1 + 1) (by omega) (by rw [i2]; omega) (by rw [i2]; omega) i1
      refine ⟨hw.1, fun a => ?_, ?_⟩
      · rw [hw.2 a, i2, i2, ct_snoc]
        split
        · rename_i e; rw [e]
        · omega
      · have := VM.wi_length (vr g) f.1 (VM.cnt (vr g) f.1 + 1)
        rw [List.length_append, List.length_singleton]
        omega
theorem vo_vr {fs : List Fp} (h : Ok fs) : vo fs = vr fs := by
  have h1 := vo_spec h
  have h2 := vr_spec h.all (by have := h.nine; omega)
  exact VM.ext h1.1 h2.1 (fun a => by rw [h1.2, h2.2.1])
end CM

theorem idx_same {P : Program} {t : TypeId} {s i : Value} {p q : Addr} (w : World) (h1 : ∀ w0, (Instr.indexAt t s i).run P w0 = .ok (.pointer (some p)) w0) (h2 : ∀ w0, (Instr.indexAt t s i).run P w0 = .ok (.pointer (some q)) w0) : p = q := by
  have h := (h1 w).symm.trans (h2 w)
  injection h with h _
  injection h with h
  injection h

end Go.Proofs.YtkaafbdhgekeeaaGreat

namespace Go.Proofs.YtkaafbdhgekeeaaGreat
open Go.RowKit
open JM (Chg)
open CM (Fp)
open VM (Ent)

theorem vo_take {fs : List Fp} (h : ∀ x ∈ fs, CM.errF x = 0) (hl : fs.length ≤ 1000) (k : Nat) : VM.Val 0 (CM.vr (fs.take k)) ∧ (∀ a, VM.cnt (CM.vr (fs.take k)) a = CM.ct (fs.take k) a) ∧ (CM.vr (fs.take k)).length ≤ 1000 := by
  have h1 := CM.vr_spec (fs := fs.take k) (fun x hx => h x (List.mem_of_mem_take hx)) (by rw [List.length_take]; omega)
  exact ⟨h1.1, h1.2.1, by have := h1.2.2; rw [List.length_take] at this; omega⟩

theorem rs_snoc (l : List Fp) (f : Fp) (g : Int → Int) : CM.rs (l ++ [f]) g = CM.rs l g ++ if f.2.1 ≤ g f.1 then [f] else [] := by
  unfold CM.rs
  rw [List.filter_append]
  by_cases h : f.2.1 ≤ g f.1
  · rw [if_pos h, List.filter_cons_of_pos (by simpa using h)]; rfl
  · rw [if_neg h, List.filter_cons_of_neg (by simpa using h)]; rfl

theorem mk_snoc (l : List Fp) (f : Fp) (b : List Fp) : CM.meetK (l ++ [f]) b = CM.meetK l b ++ if CM.hasK b f.1 f.2.1 = true then [f] else [] := by
  unfold CM.meetK
  rw [List.filter_append]
  by_cases h : CM.hasK b f.1 f.2.1 = true
  · rw [if_pos h, List.filter_cons_of_pos (by simpa using h)]; rfl
  · rw [if_neg h, List.filter_cons_of_neg (by simpa using h)]; rfl

end Go.Proofs.YtkaafbdhgekeeaaGreat
