/-
  The call of the reference's Weigh: ascending entries with an entry put in. Conditions: the list reads and is short.
-/
import Derived.Test.YtdipheijagjelaaGreatMRIns
import Derived.StillTailTactics
namespace Go.Proofs.YtdipheijagjelaaGreat
open Go.RowKit
open MM (Mem Ent Sm Tri)

section
variable {α : Type} {P : Program} {t e : TypeId} {size bytes : Nat} {enc : α → List Value}
variable {w : World} {ops : Array Oper} {o : Oper} {a : Act} {K : Act → World → Prop} {Q : Exit → Act → World → Prop} {F : Prop} {base : Nat} {v : Value} {ys : List α}
/-- 'append(out, u...)' as one step of a region that draws its order. -/
theorem step_appGS (E : IsElem P t e size bytes enc) {u : Value} {zs : List α} (hwant : Region.wanted o (yielded ops a.tmps) = true) (s r : Operand) (ho : o.op = .call { callee := .builtin .append, args := #[s, r], argTypes := #[t, t] })
    (hs : a.eval s = v) (hown : OwnG enc e size base w v ys) (hx : a.eval r = u) (hu : RdG enc size w u zs) (hlen : ys.length ≤ 1073741824) (hlen2 : zs.length ≤ 1073741824) (hb : base ≤ w.heap.size)
    (h : ∀ v' w', OwnG enc e size base w' v' (ys ++ zs) → Below base w w' → w.grownBy w' v.ownBlock → K (a.put o.dst v') w') :
    if Region.wanted o (yielded ops a.tmps) = true then Oper.wp P o a w K Q else F := by
  rw [if_pos hwant]
  obtain ⟨i0, z, hi, hz0, hz1, hz2, hz3⟩ := E.info
  obtain ⟨ad, c, rfl, h1, h2, h3, hl, h4⟩ := hu
  cases ad with
  | none =>
    obtain ⟨rfl, rfl⟩ := h3 rfl
    have hrun := run_append_owned_none (P := P) (w := w) base t o.type e i0 size E.ht hi _ _ _ hown.1
    unfold Oper.wp
    simp [execOp, ho, resolve, invoke, builtin, hs, hx, hrun, Result.andThen]
    exact h _ _ (by rw [List.append_nil]; exact hown) (Below.refl _ _) ⟨rfl, rfl, rfl, Nat.le_refl _, fun _ _ _ => rfl⟩
  | some ad =>
    refine wp_append_own w s r t ho base e i0 z size bytes E.ht hi hz0 hz1 hz2 hz3 E.pos _ _ _ hs hown.1 ad zs.length c (cellsOf enc zs) hx (cellsOf_length E.len zs) (h4 ad rfl) (cellsOf_one E.one zs) ?_ ?_ hb ?_
    · unfold maxLen; omega
    · have := E.fits
      calc (ys.length + zs.length) * bytes ≤ (1073741824 + 1073741824) * 4096 := Nat.mul_le_mul (by omega) this
        _ ≤ 140737488355328 := by decide
    · intro v' w1 ho1 hg1 _
      refine h v' w1 ⟨?_, hown.2⟩ ((Below.refl _ _).grown hg1 hb (fun k hk => (World.ownsRow.lt hown.1 k hk).1)) hg1
      rw [cellsOf_append, List.length_append]
      exact ho1
theorem RdG.grown {w w' : World} {b n c : Nat} {row : Option Nat} {xs : List α} (h : RdG enc size w (.slice (some ⟨b, 0, none⟩) n c) xs) (hg : w.grownBy w' row) (hne : some b ≠ row) : RdG enc size w' (.slice (some ⟨b, 0, none⟩) n c) xs := by
  obtain ⟨a, c', hv, h1, h2, h3, hl, h4⟩ := h
  refine ⟨a, c', hv, h1, h2, h3, hl, fun x hx j u hu => ?_⟩
  have h5 := h4 x hx j u hu
  cases hv
  cases hx
  have h6 := World.block_lt_of_cell? w _ h5
  rw [addr_block] at h6
  rw [World.cell?_of_block (w := w) (by rw [addr_block]; exact hg.block b h6 hne)]
  exact h5
end

/-- What Weigh builds. -/
def whF (e : Ent) : Bool → List Ent → List Ent
  | put, [] => if put then [] else [e]
  | put, y :: l => if y.1 = e.1 then MM.lat y e :: whF e true l else if (!put && decide (e.1 < y.1)) = true then e :: y :: whF e true l else y :: whF e put l
theorem whF_true {e : Ent} {l : List Ent} (h : ∀ y ∈ l, e.1 < y.1) : whF e true l = l := by
  induction l with
  | nil => rfl
  | cons y l ih =>
    have := h y (by simp)
    rw [whF, if_neg (by omega), if_neg (by simp), ih (fun z hz => h z (by simp [hz]))]
theorem whF_srt {e : Ent} {l : List Ent} (h : MM.Srt MM.kW l) : whF e false l = MM.insW e l := by
  induction l with
  | nil => rfl
  | cons y l ih =>
    have a1 := h.hd MM.kW
    unfold MM.insW MM.ins
    rw [whF]
    show _ = if y.1 = e.1 then MM.lat y e :: l else if e.1 < y.1 then e :: y :: l else y :: MM.insW e l
    by_cases h1 : y.1 = e.1
    · rw [if_pos h1, if_pos h1, whF_true (fun z hz => by have : y.1 < z.1 := a1 z hz; omega)]
    · rw [if_neg h1, if_neg h1]
      by_cases h2 : e.1 < y.1
      · rw [if_pos h2, if_pos (by simp [h2]), whF_true (fun z hz => by have : y.1 < z.1 := a1 z hz; omega)]
      · rw [if_neg h2, if_neg (by simp [h2]), ih (h.tl MM.kW)]

end Go.Proofs.YtdipheijagjelaaGreat
