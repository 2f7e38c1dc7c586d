/-
  Lists of payloads: when a slice of slices of bytes reads as a list of lists, when it is the call's own; 'append(list, payload)' and 'append(list, more...)'. No conditions beyond those that each lemma names.
-/
import Derived.Test.YtgpbacddpfbimaaFrameMath
import Derived.Test.YtgpbacddpfbimaaBase
namespace Go.Proofs.Ytgpbacddpfbimaa
open Go.RowKit
open WM (Bytes)

theorem infoSl : (Try.prog.info? 22).map (fun i => (i.zero, i.size, i.bytes)) = some (some (.slice none 0 0), 1, 24) := by kernel_rfl

/-- Reads as xs, and lies in a block of bytes. -/
def RdT (w : World) (v : Value) (xs : List Int) : Prop := Rd w v xs ∧ ∀ a n c, v = .slice (some a) n c → ∃ cur fr, w.heap[a.block]? = some (.cells cur 5 fr)

/-- All blocks that hold something else than slices of bytes are as they were. -/
def KeepsT (w w' : World) : Prop := ∀ (k : Nat) (cur : Array Value) (t : TypeId) (fr : Nat × Nat), t ≠ 22 → w.heap[k]? = some (Obj.cells cur t fr) → w'.heap[k]? = some (Obj.cells cur t fr)

theorem Below.keepsT {w w' : World} (h : Below w.heap.size w w') : KeepsT w w' := fun k cur t fr _ hk => by
  have hlt : k < w.heap.size := (Array.getElem?_eq_some_iff.1 hk).1
  rw [h.block k hlt]; exact hk
theorem KeepsT.trans {a b c : World} (h : KeepsT a b) (k : KeepsT b c) : KeepsT a c := fun i cur t fr ht hi => k i cur t fr ht (h i cur t fr ht hi)
theorem RdT.keep {w w' : World} {v : Value} {xs : List Int} (h : RdT w v xs) (hk : KeepsT w w') : RdT w' v xs := by
  obtain ⟨⟨a, n, c, rfl, h1, h2, h3, h4, h5, h6⟩, ht⟩ := h
  refine ⟨⟨a, n, c, rfl, h1, h2, h3, h4, fun x hx i hi => ?_, h6⟩, fun a' n' c' he => ?_⟩
  · subst hx
    obtain ⟨cur, fr, hc⟩ := ht x n c rfl
    have h7 := h5 x rfl i hi
    have hb : (x.add i).block = x.block := by unfold Addr.add; split <;> rfl
    rw [World.cell?_of_block (w := w) (w' := w')]
    · exact h7
    · rw [hb, hc]; exact hk _ _ _ _ (by decide) hc
  · obtain ⟨cur, fr, hc⟩ := ht a' n' c' he
    exact ⟨cur, fr, hk _ _ _ _ (by decide) hc⟩
theorem RdT.below {w w' : World} {v : Value} {xs : List Int} (h : RdT w v xs) (hb : Below w.heap.size w w') : RdT w' v xs := h.keep (Below.keepsT hb)
theorem Own.rdT {base : Nat} {w : World} {v : Value} {xs : List Int} (h : Own base w v xs) : RdT w v xs := by
  refine ⟨h.rd, fun a n c he => ?_⟩
  subst he
  rcases h.1.2 with ⟨hv, _⟩ | ⟨g, cap, cur, hv, hg, hh, _⟩
  · cases hv
  · cases hv
    exact ⟨cur, _, hh⟩
theorem RdT.nil (w : World) : RdT w (.slice none 0 0) [] := ⟨Rd.nil w, fun _ _ _ h => by cases h⟩
theorem RdT.cutL {w : World} {a : Option Addr} {c : Nat} {xs : List Int} (h : RdT w (.slice a xs.length c) xs) (lo : Nat) (h2 : lo ≤ xs.length) :
    ∃ v', (∀ w0 : World, (Instr.slice 22 (.slice a xs.length c) (some (.int .i64 (lo : Int))) none none).run Try.prog w0 = .ok v' w0) ∧ RdT w v' (xs.drop lo) := by
  obtain ⟨v', h3, h4⟩ := h.1.cutL lo h2
  obtain ⟨v2, hv2, _, _⟩ := h.1.cut lo xs.length h2 (Nat.le_refl _)
  refine ⟨v', h3, h4, fun a' n' c' he => ?_⟩
  have e : v' = v2 := by
    have e1 := h3 w
    rw [hv2]
    have f1 : (0 : Int) ≤ (lo : Int) := by omega
    have f2 : (lo : Int) ≤ (xs.length : Int) := by omega
    have hz := fun w => run_sizeU8 w
    simp [Instr.slice, run_underlying Try.underlying22, Instr.sliceBounds, run_sliceBound, f1, f2, hz, Result.andThen] at e1
    exact e1.symm
  rw [e, hv2] at he
  cases a with
  | none => split at he <;> cases he
  | some x =>
    obtain ⟨cur, fr, hc⟩ := h.2 x _ _ rfl
    refine ⟨cur, fr, ?_⟩
    split at he
    · cases he; exact hc
    · simp only [Option.map_some] at he
      cases he
      have hb : (x.add lo).block = x.block := by unfold Addr.add; split <;> rfl
      rw [hb]; exact hc

/-- The values us read as the payloads pss. -/
inductive Rds (w : World) : List Value → List (List Int) → Prop
  | nil : Rds w [] []
  | cons {u : Value} {us : List Value} {p : List Int} {pss : List (List Int)} : Rd w u p → Rds w us pss → Rds w (u :: us) (p :: pss)
/-- .. and each lies in a block of bytes. -/
inductive Pays (w : World) : List Value → List (List Int) → Prop
  | nil : Pays w [] []
  | cons {u : Value} {us : List Value} {p : List Int} {pss : List (List Int)} : RdT w u p → Pays w us pss → Pays w (u :: us) (p :: pss)

theorem Rds.length {w : World} {us : List Value} {pss : List (List Int)} (h : Rds w us pss) : us.length = pss.length := by
  induction h with
  | nil => rfl
  | cons _ _ ih => simp [ih]
theorem Rds.get {w : World} {us : List Value} {pss : List (List Int)} (h : Rds w us pss) : ∀ (i : Nat) (u : Value), us[i]? = some u → ∃ p, pss[i]? = some p ∧ Rd w u p := by
  induction h with
  | nil => intro i u hu; cases hu
  | cons h1 _ ih =>
    intro i u hu
    cases i with
    | zero => cases hu; exact ⟨_, rfl, h1⟩
    | succ i => exact ih i u hu
theorem Rds.snoc {w : World} {us : List Value} {pss : List (List Int)} {u : Value} {p : List Int} (h : Rds w us pss) (k : Rd w u p) : Rds w (us ++ [u]) (pss ++ [p]) := by
  induction h with
  | nil => exact .cons k .nil
  | cons h1 _ ih => exact .cons h1 ih
theorem Rds.under {w w' : World} {us : List Value} {pss : List (List Int)} (h : Rds w us pss) (hb : Below w.heap.size w w') : Rds w' us pss := by
  induction h with
  | nil => exact .nil
  | cons h1 _ ih => exact .cons (h1.below hb) ih
theorem Pays.rds {w : World} {us : List Value} {pss : List (List Int)} (h : Pays w us pss) : Rds w us pss := by
  induction h with
  | nil => exact .nil
  | cons h1 _ ih => exact .cons h1.1 ih
theorem Pays.keep {w w' : World} {us : List Value} {pss : List (List Int)} (h : Pays w us pss) (hk : KeepsT w w') : Pays w' us pss := by
  induction h with
  | nil => exact .nil
  | cons h1 _ ih => exact .cons (h1.keep hk) ih
theorem Pays.append {w : World} {us vs : List Value} {pss qss : List (List Int)} (h : Pays w us pss) (k : Pays w vs qss) : Pays w (us ++ vs) (pss ++ qss) := by
  induction h with
  | nil => exact k
  | cons h1 _ ih => exact .cons h1 ih
theorem Rds.one {w : World} {us : List Value} {pss : List (List Int)} (h : Rds w us pss) : ∀ u ∈ us, u.oneCell' = true := by
  induction h with
  | nil => intro u hu; cases hu
  | cons h1 _ ih =>
    intro u hu
    rcases List.mem_cons.1 hu with rfl | hu
    · obtain ⟨a, n, c, rfl, _⟩ := h1; rfl
    · exact ih u hu

/-- The slice v of slices of bytes reads as pss. -/
def RdL (w : World) (v : Value) (pss : List (List Int)) : Prop :=
  ∃ a c us, v = .slice a pss.length c ∧ pss.length ≤ c ∧ c ≤ maxLen ∧ (a = none → pss.length = 0 ∧ c = 0) ∧
    (∀ x, a = some x → ∀ i u, us[i]? = some u → w.cell? (x.add i) = some u) ∧ Rds w us pss
/-- .. and is the call's own. -/
def OwnL (base : Nat) (w : World) (v : Value) (pss : List (List Int)) : Prop := ∃ us, w.ownsRow base 22 1 v us.length us ∧ Pays w us pss

theorem ownL_empty (w : World) : OwnL w.heap.size (w.alloc (.cells #[] 22)) (.slice (some ⟨w.heap.size, 0, none⟩) 0 0) [] := ⟨[], World.ownsRow_made w #[] 0 (Nat.le_refl _) (Nat.zero_le _) rfl, .nil⟩
theorem OwnL.nil (base : Nat) (w : World) : OwnL base w (.slice none 0 0) [] := ⟨[], World.ownsRow_nil _ _ _ _, .nil⟩
theorem OwnL.rdL {base : Nat} {w : World} {v : Value} {pss : List (List Int)} (h : OwnL base w v pss) : RdL w v pss := by
  obtain ⟨us, ho, hp⟩ := h
  have hl := hp.rds.length
  have ho' := ho
  obtain ⟨_, hv | ⟨g, cap, cur, rfl, hg, hh, hn, hm, hs, ht⟩⟩ := ho
  · obtain ⟨rfl, h0⟩ := hv
    obtain rfl : us = [] := List.eq_nil_of_length_eq_zero h0
    obtain rfl : pss = [] := List.eq_nil_of_length_eq_zero (by rw [← hl]; rfl)
    exact ⟨none, 0, [], rfl, Nat.le_refl _, Nat.zero_le _, fun _ => ⟨rfl, rfl⟩, (fun _ h => by cases h), .nil⟩
  · rw [hl] at hn ⊢
    refine ⟨_, cap, us, rfl, hn, hm, (fun h => by cases h), fun x hx i u hu => ?_, hp.rds⟩
    cases hx
    exact ho'.cells (g := g) rfl i u hu
theorem RdL.below {w w' : World} {v : Value} {pss : List (List Int)} (h : RdL w v pss) (hb : Below w.heap.size w w') : RdL w' v pss := by
  obtain ⟨a, c, us, rfl, h1, h2, h3, h4, h5⟩ := h
  exact ⟨a, c, us, rfl, h1, h2, h3, fun x hx i u hu => below_cell hb (h4 x hx i u hu), h5.under hb⟩
theorem OwnL.below {base : Nat} {w w' : World} {v : Value} {pss : List (List Int)} (h : OwnL base w v pss) (hb : Below w.heap.size w w') : OwnL base w' v pss := by
  obtain ⟨us, ho, hp⟩ := h
  exact ⟨us, ho.kept (row := none) ⟨hb.os, hb.tape, hb.output, hb.size, fun k hk _ => hb.block k hk⟩ (by cases v.ownBlock <;> simp), hp.keep (Below.keepsT hb)⟩
theorem OwnL.mono {base base' : Nat} {w : World} {v : Value} {pss : List (List Int)} (h : OwnL base w v pss) (hle : base' ≤ base) : OwnL base' w v pss := by
  obtain ⟨us, ⟨hl, h⟩, hx⟩ := h
  refine ⟨us, ⟨hl, ?_⟩, hx⟩
  rcases h with h | ⟨g, cap, cur, hv, hg, r⟩
  · exact .inl h
  · exact .inr ⟨g, cap, cur, hv, Nat.le_trans hle hg, r⟩
theorem RdL.shape {w : World} {v : Value} {pss : List (List Int)} (h : RdL w v pss) : ∃ a c, v = .slice a pss.length c ∧ c ≤ 9223372036854775807 ∧ pss.length ≤ c := by
  obtain ⟨a, c, us, rfl, hl, hcm, _⟩ := h
  unfold maxLen at hcm
  exact ⟨a, c, rfl, by omega, hl⟩

/-- A list of one's own grows: everything else stays. -/
theorem keepsT_grown {base : Nat} {w w' : World} {v : Value} {n : Nat} {us : List Value} (ho : w.ownsRow base 22 1 v n us) (hg : w.grownBy w' v.ownBlock) : KeepsT w w' := by
  intro k cur t fr ht hk
  have hlt : k < w.heap.size := (Array.getElem?_eq_some_iff.1 hk).1
  rw [hg.block k hlt]
  · exact hk
  · intro he
    rcases ho.2 with ⟨rfl, _⟩ | ⟨g, cap, cur', rfl, _, hh, _⟩
    · cases he
    · simp only [Value.ownBlock] at he
      cases he
      rw [hh] at hk
      cases hk
      exact ht rfl

section
variable {w : World} {ops : Array Oper} {rest : List Oper} {o : Oper} {a : Act} {Q : Exit → Act → World → Prop} {base : Nat} {v : Value} {pss : List (List Int)}

/-- 'append(list, u)': the list the call's own. -/
theorem wp_appL1 {u : Value} {p : List Int} (hgd : o.guard = none) (s x : Operand) (ho : o.op = .call { callee := .builtin .append, args := #[s, x], argTypes := #[39, 39] })
    (hs : a.eval s = v) (hown : OwnL base w v pss) (hx : a.eval x = .slice (some ⟨w.heap.size, 0, none⟩) 1 1) (hu : RdT w u p) (hlen : pss.length ≤ 1099511627776) (hb : base ≤ w.heap.size)
    (h : ∀ v' w', OwnL base w' v' (pss ++ [p]) → Below base w w' → KeepsT w w' → wpList Try.prog ops Q rest (a.put o.dst v') w') :
    wpList Try.prog ops Q (o :: rest) a (w.alloc (.cells #[u] 22)) := by
  obtain ⟨i0, hi, hz0, hz1, hz2⟩ := info_parts infoSl
  obtain ⟨us, hor, hp⟩ := hown
  have hl := hp.rds.length
  have hone : u.oneCell' = true := by obtain ⟨⟨a, n, c, rfl, _⟩, _⟩ := hu; rfl
  refine wpList_append_own _ hgd s x 39 ho base 22 i0 (.slice none 0 0) 1 24 Try.underlying39 hi hz0 hz1 hz2 rfl (by decide) _ _ _ hs (hor.alloc _) ⟨w.heap.size, 0, none⟩ 1 1 [u] hx rfl (cell_one_new _ _ _) ?_ ?_ ?_ ?_ ?_
  · intro q hq; simp at hq; subst hq; exact hone
  · unfold maxLen; omega
  · omega
  · simp; omega
  · intro v' w1 ho1 hg1 _
    have hk0 : KeepsT w (w.alloc (.cells #[u] 22)) := Below.keepsT ((Below.refl _ w).alloc (Nat.le_refl _) _)
    have hk1 := hk0.trans (keepsT_grown (hor.alloc (.cells #[u] 22)) hg1)
    refine h v' w1 ⟨us ++ [u], by simpa using ho1, (hp.keep hk1).append (.cons (hu.keep hk1) .nil)⟩ (((Below.refl _ _).alloc hb _).grown hg1 (by simp; omega) (fun k hk => (hor.lt k hk).1)) hk1

/-- 'append(list, more...)': the list the call's own. -/
theorem wp_appLS {u : Value} {base2 : Nat} {qss : List (List Int)} (hw : Region.wanted o (yielded ops a.tmps) = true) (s x : Operand) (ho : o.op = .call { callee := .builtin .append, args := #[s, x], argTypes := #[39, 39] })
    (hs : a.eval s = v) (hown : OwnL base w v pss) (hx : a.eval x = u) (hu : OwnL base2 w u qss) (hlen : pss.length ≤ 1099511627776) (hlen2 : qss.length ≤ 1099511627776) (hb : base ≤ w.heap.size)
    (h : ∀ v' w', OwnL base w' v' (pss ++ qss) → Below base w w' → KeepsT w w' → wpList Try.prog ops Q rest (a.put o.dst v') w') :
    wpList Try.prog ops Q (o :: rest) a w := by
  obtain ⟨i0, hi, hz0, hz1, hz2⟩ := info_parts infoSl
  obtain ⟨us, hor, hp⟩ := hown
  obtain ⟨vs, hov, hq⟩ := hu
  have hl := hp.rds.length
  have hl2 := hq.rds.length
  rcases hov.2 with ⟨rfl, h0⟩ | ⟨g, cap, cur, rfl, _, hh, hn, hm, _, _⟩
  · obtain rfl : vs = [] := List.eq_nil_of_length_eq_zero h0
    obtain rfl : qss = [] := List.eq_nil_of_length_eq_zero (by rw [← hl2]; rfl)
    refine BigFrame.wpList_want hw fun K hK => ?_
    have hrun := run_append_owned_none (P := Try.prog) (w := w) base 39 o.type 22 i0 1 Try.underlying39 hi _ _ _ hor
    unfold Oper.wp
    simp [execOp, ho, resolve, invoke, builtin, hs, hx, hrun, Result.andThen]
    exact hK _ _ (h _ _ (by rw [List.append_nil]; exact ⟨us, hor, hp⟩) (Below.refl _ _) (fun _ _ _ _ _ hk => hk))
  · refine BigFrame.wpList_want hw fun K hK => ?_
    refine wp_append_own _ s x 39 ho base 22 i0 (.slice none 0 0) 1 24 Try.underlying39 hi hz0 hz1 hz2 rfl (by decide) _ _ _ hs hor ⟨g, 0, none⟩ vs.length cap vs hx (by simp) ?_ hq.rds.one ?_ ?_ hb ?_
    · exact fun j q hj => hov.cells (g := g) rfl j q hj
    · unfold maxLen; omega
    · omega
    · intro v' w1 ho1 hg1 _
      have hk1 := keepsT_grown hor hg1
      exact hK _ _ <| h v' w1 ⟨us ++ vs, by simpa using ho1, (hp.keep hk1).append (hq.keep hk1)⟩ ((Below.refl _ _).grown hg1 hb (fun k hk => (hor.lt k hk).1)) hk1
end

end Go.Proofs.Ytgpbacddpfbimaa
