/-
  What reads without a look at some blocks: Off G w R: R holds wherever the blocks of w outside G are as they are. Vectors and lists of which it is so. No conditions beyond those that each lemma names.
-/
import Derived.Test.YtejedodicihecaaAB
import Derived.Test.YtejedodicihecaaOnly
namespace Go.Proofs.Ytejedodicihecaa
open Go.RowKit
open VM (Ent)

/-- R holds in w and wherever the blocks of w outside G are as they are. -/
def Off (G : Nat → Prop) (w : World) (R : World → Prop) : Prop := ∀ w', (∀ k, k < w.heap.size → ¬ G k → w'.heap[k]? = w.heap[k]?) → R w'
section
variable {G : Nat → Prop} {w w' W : World} {R S : World → Prop} {base g : Nat} {v : Value}
theorem Off.rd (h : Off G w R) : R w := h w fun _ _ _ => rfl
theorem Off.below (h : Off G w R) (hb : Below w.heap.size w w') : Off G w' R := fun w2 h2 => h w2 fun k hk hg => by
  rw [h2 k (by have := hb.size; omega) hg, hb.block k hk]
theorem Off.only (h : Off G w R) (ho : Only g w w') (hg : G g) : Off G w' R := fun w2 h2 => h w2 fun k hk hk2 => by
  rw [h2 k (by have := ho.size; omega) hk2, ho.block k hk (by rintro rfl; exact hk2 hg)]
theorem Off.imp (h : Off G w R) (hi : ∀ w, R w → S w) : Off G w S := fun w2 h2 => hi _ (h w2 h2)
theorem Off.both (h : Off G w R) (k : Off G w S) : Off G w fun w => R w ∧ S w := fun w2 h2 => ⟨h w2 h2, k w2 h2⟩
theorem Off.weak {H : Nat → Prop} (h : Off G w R) (hi : ∀ k, H k → G k) : Off H w R := fun w2 h2 => h w2 fun k hk hk2 => h2 k hk fun h3 => hk2 (hi k h3)
theorem Off.ext {H : Nat → Prop} (h : Off G w R) (hb : Below w.heap.size w w') (hi : ∀ k, H k → G k ∨ w.heap.size ≤ k) : Off H w' R := fun w2 h2 => h w2 fun k hk hk2 => by
  rw [h2 k (by have := hb.size; omega) (fun h3 => (hi k h3).elim hk2 (fun h4 => by omega)), hb.block k hk]
theorem cell_at {p : Addr} {u : Value} (h : w'.heap[p.block]? = w.heap[p.block]?) (hc : w.cell? p = some u) : w'.cell? p = some u := by
  have : w'.cell? p = w.cell? p := by simp [World.cell?, h]
  rw [this, hc]
theorem VX.RdV.heap {xs : List Ent} (h : VX.RdV w v xs) (hh : ∀ k, k < w.heap.size → w'.heap[k]? = w.heap[k]?) : VX.RdV w' v xs := by
  obtain ⟨a, c, rfl, h1, h2, h3, h4⟩ := h
  exact ⟨a, c, rfl, h1, h2, h3, fun x hx j u hu => by
    have hc := h4 x hx j u hu
    exact cell_at (hh _ (World.block_lt_of_cell? w _ hc)) hc⟩
theorem RdG.heap {α : Type} {enc : α → List Value} {size : Nat} {xs : List α} (h : RdG enc size w v xs) (hh : ∀ k, k < w.heap.size → w'.heap[k]? = w.heap[k]?) : RdG enc size w' v xs := by
  obtain ⟨a, c, rfl, h1, h2, h3, hl, h4⟩ := h
  exact ⟨a, c, rfl, h1, h2, h3, hl, fun x hx j u hu => by
    have hc := h4 x hx j u hu
    exact cell_at (hh _ (World.block_lt_of_cell? w _ hc)) hc⟩
theorem off_oldV {xs : List Ent} (h : VX.RdV W v xs) (hb : Below W.heap.size W w) (hG : ∀ k, G k → W.heap.size ≤ k) : Off G w fun w => VX.RdV w v xs := fun w2 h2 =>
  h.heap fun k hk => by rw [h2 k (by have := hb.size; omega) (fun hg => by have := hG k hg; omega), hb.block k hk]
theorem off_old {α : Type} {enc : α → List Value} {size : Nat} {xs : List α} (h : RdG enc size W v xs) (hb : Below W.heap.size W w) (hG : ∀ k, G k → W.heap.size ≤ k) : Off G w fun w => RdG enc size w v xs := fun w2 h2 =>
  h.heap fun k hk => by rw [h2 k (by have := hb.size; omega) (fun hg => by have := hG k hg; omega), hb.block k hk]
theorem off_ownV {xs : List Ent} (h : VX.OwnV base w v xs) (hG : ∀ k, G k → k < base) : Off G w fun w => VX.RdV w v xs := fun w2 h2 => by
  refine VX.OwnV.rd (base := base) ⟨h.1, ?_⟩
  rcases h.2 with h6 | ⟨gg, cap, cur, hv, hgg, hh, r⟩
  · exact .inl h6
  · exact .inr ⟨gg, cap, cur, hv, hgg, by rw [h2 gg (Array.getElem?_eq_some_iff.1 hh).1 (fun hg => by have := hG gg hg; omega), hh], r⟩
theorem off_own {α : Type} {enc : α → List Value} {e : TypeId} {size : Nat} {xs : List α} (h : OwnG enc e size base w v xs) (hG : ∀ k, G k → k < base) : Off G w fun w => RdG enc size w v xs := fun w2 h2 => by
  refine OwnG.rd (base := base) (e := e) ⟨⟨h.1.1, ?_⟩, h.2⟩
  rcases h.1.2 with h6 | ⟨gg, cap, cur, hv, hgg, hh, r⟩
  · exact .inl h6
  · exact .inr ⟨gg, cap, cur, hv, hgg, by rw [h2 gg (Array.getElem?_eq_some_iff.1 hh).1 (fun hg => by have := hG gg hg; omega), hh], r⟩
/-- What is the call's own stays where an earlier block is changed. -/
theorem ownV_past {xs : List Ent} (h : VX.OwnV base w v xs) (ho : Only g w w') (hg : g < base) : VX.OwnV base w' v xs := by
  refine ⟨h.1, ?_⟩
  rcases h.2 with h6 | ⟨gg, cap, cur, hv, hgg, hh, r⟩
  · exact .inl h6
  · exact .inr ⟨gg, cap, cur, hv, hgg, ho.at hh (by omega), r⟩
theorem ownG_past {α : Type} {enc : α → List Value} {e : TypeId} {size : Nat} {xs : List α} (h : OwnG enc e size base w v xs) (ho : Only g w w') (hg : g < base) : OwnG enc e size base w' v xs := by
  refine ⟨⟨h.1.1, ?_⟩, h.2⟩
  rcases h.1.2 with h6 | ⟨gg, cap, cur, hv, hgg, hh, r⟩
  · exact .inl h6
  · exact .inr ⟨gg, cap, cur, hv, hgg, ho.at hh (by omega), r⟩
theorem Only.trans {a b c : World} (h : Only g a b) (k : Only g b c) : Only g a c := ⟨k.os.trans h.os, k.tape.trans h.tape, k.output.trans h.output, Nat.le_trans h.size k.size, fun i hi hne => by rw [k.block i (Nat.lt_of_lt_of_le hi h.size) hne, h.block i hi hne]⟩
theorem off_nilV : Off G w fun w => VX.RdV w (.slice none 0 0) [] := fun w2 _ => VX.RdV.nil w2
end
end Go.Proofs.Ytejedodicihecaa
