/-
  The calls of package vector's walk, its collector and its observer; of vector.Join, Meet, Compare, LessEqual. Conditions: the arguments read as vectors, valid and within the bounds where they are named.
-/
import Derived.StillTailTactics
import Derived.Shelf.Abstract
import Derived.Test.YtkgkhofkhjgnbaaGreatKF
namespace Go.Proofs.YtkgkhofkhjgnbaaGreat.VX
open Go.RowKit Go.Shelf
open VM (Ent)

/-- Block g is a collector (or whatever lies in one cell) that holds the call's own vector xs; all that lay in w0 is as it was. -/
def Coll (w0 : World) (g : Nat) (w : World) (xs : List Ent) : Prop :=
  ∃ v, w.heap[g]? = some (.cells #[v] 127 (0, 0)) ∧ OwnV w0.heap.size w v xs ∧ Below w0.heap.size w0 w

theorem OwnV.set_other {B : Nat} {w : World} {v u x : Value} {xs : List Ent} {g : Nat} {t : TypeId} (h : OwnV B w v xs) (hg : w.heap[g]? = some (.cells #[x] t (0, 0))) (ht : t ≠ 67) : OwnV B (w.setCell ⟨g, 0, none⟩ u) v xs := by
  refine ownsRow_setCell_other h ?_ u
  intro he
  rcases h.2 with ⟨rfl, _⟩ | ⟨g', cap, cur, rfl, _, hh, _⟩
  · cases he
  · simp only [Value.ownBlock] at he
    cases he
    rw [hh] at hg
    cases hg
    exact ht rfl

set_option maxRecDepth 100000 in
set_option maxHeartbeats 1000000 in
theorem wAdd (w0 : World) (g : Nat) (xs : List Ent) (x n : Int) (w : World) (h : Coll w0 g w xs) (hg : w0.heap.size ≤ g) (hl : xs.length ≤ 1000000) :
    Calls Tryz.prog 98 #[.pointer (some ⟨g, 0, none⟩), .int .i64 x, .int .i64 n] w fun e w' => e = .returned (.tuple #[]) ∧ Coll w0 g w' (xs ++ VM.one x n) := by
  by_cases hn : n = 0
  · have hx : (n != 0) = false := by simpa using hn
    have h' : Coll w0 g w (xs ++ VM.one x n) := by rw [VM.one, if_pos hn, List.append_nil]; exact h
    clear h hn
    go_enter Tryz.func98, Tryz.ntmps98
    go_wp2
    go_end0
    exact ⟨rfl, h'⟩
  · have hx : (n != 0) = true := by simpa using hn
    obtain ⟨v, hv, ho, hb⟩ := h
    have hsz := hb.size
    have ho1 : VM.one x n = [(x, n)] := by rw [VM.one, if_neg hn]
    rw [ho1]
    have c0 := cell_of_one hv
    have HV := Lib.hid hv
    clear hn ho1 hv
    go_enter Tryz.func98, Tryz.ntmps98
    go_wp2_with (at_builtin; refine wp_appV1 rfl _ _ rfl rfl ho rfl (by omega) hsz ?_)
    intro v5 w5 ho5 hb5 hk5
    have hv5 := hk5 _ _ _ _ (by decide) HV.out
    have hb6 := (hb.trans hb5).setCell (p := ⟨g, 0, none⟩) hg v5
    have ho6 := ho5.set_other (u := v5) hv5 (by decide)
    have hv6 := one_setCell (u := v5) hv5
    have c5 := cell_of_one hv5
    have f5 := free_of_one hv5
    have HV6 := Lib.hid hv6
    have HO6 := Lib.hid ho6
    have HB6 := Lib.hid hb6
    clear hk5 hv5 ho5 hb5 hb ho HV hv6 ho6 hb6 c0 hsz
    obtain ⟨a5, n5, k5, rfl⟩ : ∃ a5 n5 k5, v5 = .slice a5 n5 k5 := by
      obtain ⟨a, c, h, _⟩ := HO6.out.rd.shape
      exact ⟨_, _, _, h⟩
    go_wp2
    go_end0
    exact ⟨rfl, _, HV6.out, HO6.out, HB6.out⟩

/-- How many elements a slice value has. -/
def slLen : Value → Nat
  | .slice _ n _ => n
  | _ => 0
theorem RdV.slLen {w : World} {v : Value} {xs : List Ent} (h : RdV w v xs) : slLen v = xs.length := by
  obtain ⟨a, c, rfl, _⟩ := h
  rfl

/-- 'v[0]' and 'v[1:]' of a vector that has an entry. -/
theorem RdV.head {w : World} {a : Option Addr} {n c : Nat} {e : Ent} {v : List Ent} (h : RdV w (.slice a n c) (e :: v)) :
    ∃ b o v', (∀ w0, (Instr.indexAt 65 (.slice a n c) (.int .i64 0)).run Tryz.prog w0 = .ok (.pointer (some ⟨b, o, none⟩)) w0) ∧
      w.cell? ⟨b, o, none⟩ = some (.int .i64 e.1) ∧ w.cell? ⟨b, o + 1, none⟩ = some (.int .i64 e.2) ∧
      (∀ w0, (Instr.slice 65 (.slice a n c) (some (.int .i64 1)) none none).run Tryz.prog w0 = .ok v' w0) ∧ RdV w v' v ∧ v.length + 1 = n := by
  obtain ⟨b, o, h1, _, h2, h3⟩ := h.at 0 e rfl
  obtain ⟨v', h4, h5⟩ := h.cutL 1 (by simp)
  have hn := h.slLen
  exact ⟨b, o, v', h1, h2, h3, h4, h5, hn.symm⟩

/-- A world that has drawn. -/
def Drew (w w' : World) : Prop := ∃ n, w' = w.drewN n

theorem mrg_nil_nil : VM.mrg [] [] = [] := by rw [VM.mrg]
theorem mrg_cons_nil (e : Ent) (a : List Ent) : VM.mrg (e :: a) [] = (e.1, e.2, 0) :: VM.mrg a [] := by rw [VM.mrg]
theorem mrg_nil_cons (f : Ent) (b : List Ent) : VM.mrg [] (f :: b) = (f.1, 0, f.2) :: VM.mrg [] b := by rw [VM.mrg]
theorem mrg_cons_cons (e f : Ent) (a b : List Ent) : VM.mrg (e :: a) (f :: b) = if e.1 < f.1 then (e.1, e.2, 0) :: VM.mrg a (f :: b) else if f.1 < e.1 then (f.1, 0, f.2) :: VM.mrg (e :: a) b else (e.1, e.2, f.2) :: VM.mrg a b := by
  rw [VM.mrg]

end Go.Proofs.YtkgkhofkhjgnbaaGreat.VX
