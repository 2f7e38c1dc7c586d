/-
  An append as one step of a region that draws its order; the reference's without. Conditions: the list reads, the place is within it.
-/
import Derived.Deep.RegionLaw
import Derived.Laws.AppendOwn
import Derived.Test.YtbbgjckiooejhaaQRef
namespace Go.Proofs.Ytbbgjckiooejhaa
open Go.RowKit
open QM (Mem)

section
variable {α : Type} {P : Program} {t e : TypeId} {size bytes : Nat} {enc : α → List Value}
variable {w : World} {ops : Array Oper} {o : Oper} {a : Act} {K : Act → World → Prop} {Q : Exit → Act → World → Prop} {F : Prop} {base : Nat} {v : Value} {ys : List α}
/-- 'append(out, u...)' as one step of a region that draws its order, guarded or not. -/
theorem step_appGS (E : IsElem P t e size bytes enc) {u : Value} {zs : List α} (hwant : Region.wanted o (yielded ops a.tmps) = true) (s r : Operand) (ho : o.op = .call { callee := .builtin .append, args := #[s, r], argTypes := #[t, t] })
    (hs : a.eval s = v) (hown : OwnG enc e size base w v ys) (hx : a.eval r = u) (hu : RdG enc size w u zs) (hlen : ys.length ≤ 1073741824) (hlen2 : zs.length ≤ 1073741824) (hb : base ≤ w.heap.size)
    (h : ∀ v' w', OwnG enc e size base w' v' (ys ++ zs) → Below base w w' → w.grownBy w' v.ownBlock → K (a.put o.dst v') w') :
    if Region.wanted o (yielded ops a.tmps) = true then Oper.wp P o a w K Q else F := by
  rw [if_pos hwant]
  obtain ⟨i0, z, hi, hz0, hz1, hz2, hz3⟩ := E.info
  obtain ⟨ad, c, rfl, h1, h2, h3, hl, h4⟩ := hu
  cases ad with
  | none =>
    obtain ⟨rfl, rfl⟩ := h3 rfl
    have hrun := run_append_owned_none (P := P) (w := w) base t o.type e i0 size E.ht hi _ _ _ hown.1
    unfold Oper.wp
    simp [execOp, ho, resolve, invoke, builtin, hs, hx, hrun, Result.andThen]
    exact h _ _ (by rw [List.append_nil]; exact hown) (Below.refl _ _) ⟨rfl, rfl, rfl, Nat.le_refl _, fun _ _ _ => rfl⟩
  | some ad =>
    refine wp_append_own w s r t ho base e i0 z size bytes E.ht hi hz0 hz1 hz2 hz3 E.pos _ _ _ hs hown.1 ad zs.length c (cellsOf enc zs) hx (cellsOf_length E.len zs) (h4 ad rfl) (cellsOf_one E.one zs) ?_ ?_ hb ?_
    · unfold maxLen; omega
    · have := E.fits
      calc (ys.length + zs.length) * bytes ≤ (1073741824 + 1073741824) * 4096 := Nat.mul_le_mul (by omega) this
        _ ≤ 140737488355328 := by decide
    · intro v' w1 ho1 hg1 _
      refine h v' w1 ⟨?_, hown.2⟩ ((Below.refl _ _).grown hg1 hb (fun k hk => (World.ownsRow.lt hown.1 k hk).1)) hg1
      rw [cellsOf_append, List.length_append]
      exact ho1
theorem RdG.grown {w w' : World} {b n c : Nat} {row : Option Nat} {xs : List α} (h : RdG enc size w (.slice (some ⟨b, 0, none⟩) n c) xs) (hg : w.grownBy w' row) (hne : some b ≠ row) : RdG enc size w' (.slice (some ⟨b, 0, none⟩) n c) xs := by
  obtain ⟨a, c', hv, h1, h2, h3, hl, h4⟩ := h
  refine ⟨a, c', hv, h1, h2, h3, hl, fun x hx j u hu => ?_⟩
  have h5 := h4 x hx j u hu
  cases hv
  cases hx
  have h6 := World.block_lt_of_cell? w _ h5
  rw [addr_block] at h6
  rw [World.cell?_of_block (w := w) (by rw [addr_block]; exact hg.block b h6 hne)]
  exact h5
end

set_option maxRecDepth 100000 in
set_option maxHeartbeats 2000000 in
theorem rWithout (v : Value) (xs : List Int) (k : Nat) (w : World) (h : RdI w v xs) (hk : k < xs.length) (hx : xs.length ≤ 1000) :
    Calls Try.prog 42 #[v, .int .i64 k] w fun e w' => ∃ u, e = .returned u ∧ OwnI w.heap.size w' u (xs.take k ++ xs.drop (k + 1)) ∧ Below w.heap.size w w' := by
  obtain ⟨ad, c, rfl, hc, hl⟩ := h.shape
  obtain ⟨v1, he1, hr1⟩ := h.cut0 intE k (by omega)
  obtain ⟨v2, he2, hr2⟩ := h.cutL intE (k + 1) (by omega)
  have he2' : ∀ w0 : World, (Instr.slice 33 (.slice ad xs.length c) (some (.int .i64 ((k : Int) + 1))) none none).run Try.prog w0 = .ok v2 w0 := he2
  have hsum : IntKind.i64.wrap ((k : Int) + 1) = (k : Int) + 1 := IntWalk.i64_in _ (by omega)
  have hE : OwnI w.heap.size (w.drew.alloc (.cells #[] 3)) (.slice (some ⟨w.heap.size, 0, none⟩) 0 0) [] := ownG_fresh hlI 3 w.drew [] (by decide)
  have hb0 : Below w.heap.size w (w.drew.alloc (.cells #[] 3)) := (Below.refl w.heap.size w).drew.alloc (Nat.le_refl _) _
  have hl1 : (xs.take k).length ≤ 1000 := by rw [List.length_take]; omega
  have hl2 : (xs.drop (k + 1)).length ≤ 1000 := by rw [List.length_drop]; omega
  have HE := Lib.hid hE
  have HR1 := Lib.hid (hr1.below hb0)
  have HR9 := Lib.hid (fun w9 (hb : Below w.heap.size w w9) => hr2.below hb)
  have HB0 := Lib.hid hb0
  have HS0 := Lib.hid (show w.heap.size ≤ (w.drew.alloc (.cells #[] 3)).heap.size from hb0.size)
  generalize xs.take k = zs at HR1 hl1 ⊢
  generalize xs.drop (k + 1) = bs at HR9 hl2 ⊢
  clear h hr1 hr2 he2 hE hb0
  go_enter Try.func42, Try.ntmps42
  go_wp2
  have tok1 : True := trivial
  go_region_law (first
    | (have _t := tok1; clear _t tok1; refine step_appGS intE rfl _ _ rfl rfl HE.out rfl HR1.out (by simp) (by omega) HS0.out ?_; intro v9 w9 ho9 hb9 _; have hr9 := HR9.out w9 (HB0.out.trans hb9); have hs9 := Nat.le_trans HS0.out hb9.size)
    | (refine step_appGS intE rfl _ _ rfl rfl ho9 rfl hr9 (by simp; omega) (by omega) hs9 ?_; intro v14 w14 ho14 hb14 _))
  all_goals
    go_wp2
    go_ret
    exact ⟨v14, rfl, (show OwnI w.heap.size w14 v14 (zs ++ bs) from by simpa using ho14), HB0.out.trans (hb9.trans hb14)⟩

end Go.Proofs.Ytbbgjckiooejhaa
