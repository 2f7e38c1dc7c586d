/-
  An append as one step of a region that draws its order; proposals in a block of their own, the block written out; the answer of a decoder. No conditions beyond those that each lemma names.
-/
import Derived.Deep.RegionLaw
import Derived.Deep.AppendLies
import Derived.StillTailTactics
import Derived.Laws.ResultCell
import Derived.Test.YtacbpphhkkmelaaJRd
namespace Go.Proofs.Ytacbpphhkkmelaa
open Go.RowKit
open JM (Chg St)

section
variable {α : Type} {P : Program} {t e : TypeId} {size bytes : Nat} {enc : α → List Value}
variable {w : World} {ops : Array Oper} {o : Oper} {a : Act} {K : Act → World → Prop} {Q : Exit → Act → World → Prop} {F : Prop} {base : Nat} {v : Value} {ys : List α}
/-- 'append(out, x)' as one step of a region that draws its order. -/
theorem step_appG1 (E : IsElem P t e size bytes enc) (x : α) (hgd : o.guard = none) (s r : Operand) (ho : o.op = .call { callee := .builtin .append, args := #[s, r], argTypes := #[t, t] })
    (hs : a.eval s = v) (hown : OwnG enc e size base w v ys) (hx : a.eval r = .slice (some ⟨w.heap.size, 0, none⟩) 1 1) (hlen : ys.length ≤ 1073741824) (hb : base ≤ w.heap.size)
    (h : ∀ v' w', OwnG enc e size base w' v' (ys ++ [x]) → Below base w w' → KeepsX e w w' → K (a.put o.dst v') w') :
    if Region.wanted o (yielded ops a.tmps) = true then Oper.wp P o a (w.alloc (.cells (enc x).toArray e)) K Q else F := by
  obtain ⟨i0, z, hi, hz0, hz1, hz2, hz3⟩ := E.info
  have hown' := World.ownsRow.alloc hown.1 (.cells (enc x).toArray e)
  refine step_append_lies (w := w.alloc (.cells (enc x).toArray e)) hgd s r t ho base e i0 z size bytes E.ht hi hz0 hz1 hz2 hz3 E.pos _ _ _ hs hown' ⟨w.heap.size, 0, none⟩ 1 1 (enc x) hx (by rw [E.len, Nat.one_mul]) ?_ (E.one x) (by decide) ?_ ?_ ?_ _ rfl ?_
  · intro j u hu
    rw [addr_plain, Nat.zero_add, World.cell?_alloc_new]
    simpa using hu
  · unfold maxLen; omega
  · have := E.fits
    calc (ys.length + 1) * bytes ≤ (1073741824 + 1) * 4096 := Nat.mul_le_mul (by omega) this
      _ ≤ 140737488355328 := by decide
  · simp; omega
  · intro g cap w1 ho1 hg1 _ _
    have hk0 : KeepsX e w (w.alloc (.cells (enc x).toArray e)) := Below.keepsX (below_fresh w _) e
    refine h _ w1 ⟨?_, hown.2⟩ (((Below.refl _ _).alloc hb _).grown hg1 (by simp; omega) (fun k hk => (World.ownsRow.lt hown.1 k hk).1)) (hk0.trans (by simp) (keepsX_grown hown' hg1))
    rw [cellsOf_append, List.length_append]
    simpa [cellsOf] using ho1
end

/-- A proposal in a block of its own, the block written out. -/
def OP (w : World) (B : Nat) (a n : Int) (s : Value) : Prop := w.heap[B]? = some (.cells #[.int .i64 a, .int .i64 n, s] 45 (0, 0))
theorem OP.cells {w : World} {B : Nat} {a n : Int} {s : Value} (h : OP w B a n s) : w.cell? ⟨B, 0, none⟩ = some (.int .i64 a) ∧ w.cell? ⟨B, 1, none⟩ = some (.int .i64 n) ∧ w.cell? ⟨B, 2, none⟩ = some s ∧
    w.frozen? ⟨B, 0, none⟩ = false ∧ w.frozen? ⟨B, 1, none⟩ = false ∧ w.frozen? ⟨B, 2, none⟩ = false := by
  unfold OP at h
  refine ⟨?_, ?_, ?_, ?_, ?_, ?_⟩ <;> simp [World.cell?, World.frozen?, h]
theorem OP.lt {w : World} {B : Nat} {a n : Int} {s : Value} (h : OP w B a n s) : B < w.heap.size := (Array.getElem?_eq_some_iff.1 h).1
theorem OP.below {w w' : World} {B : Nat} {a n : Int} {s : Value} (h : OP w B a n s) (hb : Below w.heap.size w w') : OP w' B a n s := below_block h hb
theorem OP.keep {w w' : World} {e : TypeId} {B : Nat} {a n : Int} {s : Value} (h : OP w B a n s) (he : 45 ≠ e) (hk : KeepsX e w w') : OP w' B a n s := hk.at h he
theorem OP.only {w w' : World} {g B : Nat} {a n : Int} {s : Value} (h : OP w B a n s) (ho : Only g w w') (hne : B ≠ g) : OP w' B a n s := ho.at h hne
theorem OP.fresh (w : World) (a n : Int) (s : Value) : OP (w.alloc (.cells #[.int .i64 a, .int .i64 n, s] 45)) w.heap.size a n s := heap_alloc_new w _
theorem OP.put {w : World} {B : Nat} {a n : Int} {s : Value} (h : OP w B a n s) (u : Value) : OP (w.setCell ⟨B, 2, none⟩ u) B a n u := heap_setCell_same w B 2 _ _ u h
theorem OP.put3 {w : World} {B : Nat} {a n : Int} {s : Value} (h : OP w B a n s) (a' n' : Int) (u : Value) : OP (((w.setCell ⟨B, 0, none⟩ (.int .i64 a')).setCell ⟨B, 1, none⟩ (.int .i64 n')).setCell ⟨B, 2, none⟩ u) B a' n' u := by
  have h1 : (w.setCell ⟨B, 0, none⟩ (.int .i64 a')).heap[B]? = some (.cells #[.int .i64 a', .int .i64 n, s] 45 (0, 0)) := heap_setCell_same w B 0 _ _ _ h
  have h2 : ((w.setCell ⟨B, 0, none⟩ (.int .i64 a')).setCell ⟨B, 1, none⟩ (.int .i64 n')).heap[B]? = some (.cells #[.int .i64 a', .int .i64 n', s] 45 (0, 0)) := heap_setCell_same _ B 1 _ _ _ h1
  exact heap_setCell_same _ B 2 _ _ u h2
theorem only3 {w : World} {B : Nat} (x y z : Value) : Only B w (((w.setCell ⟨B, 0, none⟩ x).setCell ⟨B, 1, none⟩ y).setCell ⟨B, 2, none⟩ z) := ((Only.set 0 x).trans (Only.set 1 y)).trans (Only.set 2 z)
theorem RdrB.keep {w w' : World} {e : TypeId} {g : Nat} {v : Value} {s : St} (h : RdrB w g v s) (he : 100 ≠ e) (hk : KeepsX e w w') : RdrB w' g v s := hk.at h he
theorem RdrB.only {w w' : World} {B g : Nat} {v : Value} {s : St} (h : RdrB w g v s) (ho : Only B w w') (hne : g ≠ B) : RdrB w' g v s := ho.at h hne
/-- The call's own changes stay where another type's block is written. -/
theorem ownC_only {base : Nat} {w w' : World} {v : Value} {ys : List Chg} {B : Nat} {t : TypeId} {cur : Array Value} {fr : Nat × Nat} (h : OwnC base w v ys) (hB : w.heap[B]? = some (.cells cur t fr)) (ht : t ≠ 63) (ho : Only B w w') : OwnC base w' v ys := by
  refine ⟨⟨h.1.1, ?_⟩, h.2⟩
  rcases h.1.2 with h6 | ⟨gg, cap, cur', hv, hgg, hh, r⟩
  · exact .inl h6
  · exact .inr ⟨gg, cap, cur', hv, hgg, ho.at hh (by rintro rfl; rw [hB] at hh; injection hh with hh; injection hh with _ ht'; exact ht ht'), r⟩
theorem rdC_only {w w' : World} {v : Value} {ys : List Chg} {B base : Nat} {t : TypeId} {cur : Array Value} {fr : Nat × Nat} (h : OwnC base w v ys) (hB : w.heap[B]? = some (.cells cur t fr)) (ht : t ≠ 63) (ho : Only B w w') : RdC w' v ys := (ownC_only h hB ht ho).rd

theorem results_cell_tmp_tmp {P : Program} {fn : Func} {p u q : Tmp} {ty : TypeId} (h : fn.results = #[.cell p ty, .tmp u, .tmp q]) (tmps : Array Value) (w : World) (g : Nat) (t : TypeId) (cs : Array Value) (fr : Nat × Nat) (d : TypeDesc)
    (hp : tmps.getD p undef = .pointer (some ⟨g, 0, none⟩)) (hg : w.heap[g]? = some (.cells cs t fr))
    (hu : P.underlying ty = some d) (hd : (match d with | .struct _ | .array _ _ => true | _ => false) = true) (hi : (P.info? ty).map (·.size) = some cs.size) :
    (results fn tmps).run P w = .ok (.tuple #[.agg cs, tmps.getD u undef, tmps.getD q undef]) w := by
  have hp' : tmps[p]?.getD undef = .pointer (some ⟨g, 0, none⟩) := by simpa using hp
  simp [results, h, hp', asAddr, run_loadVar_row w g t ty cs fr d hg hu hd hi, Result.andThen]

end Go.Proofs.Ytacbpphhkkmelaa
