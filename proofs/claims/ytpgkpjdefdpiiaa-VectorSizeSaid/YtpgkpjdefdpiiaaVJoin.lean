/-
  The calls of vector.Join, Meet, Compare, LessEqual: each returns what the plain mathematics says. Conditions: the arguments read as vectors, within the bounds that are named.
-/
import Derived.Test.YtpgkpjdefdpiiaaVWalk
namespace Go.Proofs.Ytpgkpjdefdpiiaa
open Go.RowKit Go.Shelf
open VM (Ent)

theorem Coll.below {w0 w : World} {g : Nat} {xs : List Ent} (h : Coll w0 g w xs) : Below w0.heap.size w0 w := by
  obtain ⟨_, _, _, hb⟩ := h
  exact hb
theorem Coll.drew {w0 w : World} {g : Nat} {xs : List Ent} (h : Coll w0 g w xs) (n : Nat) : Coll w0 g (w.drewN n) xs := by
  obtain ⟨v, h1, h2, h3⟩ := h
  exact ⟨v, h1, h2.below (below_drewN _ w n), h3.trans (below_drewN _ w n)⟩
theorem Coll.new (w : World) : Coll w w.heap.size (w.alloc (.cells #[.slice none 0 0] 45)) [] := ⟨_, heap_alloc_new w _, OwnV.nil _ _, below_fresh w _⟩
theorem Obs.drew {w0 w : World} {g : Nat} {l r : Bool} (h : Obs w0 g w l r) (n : Nat) : Obs w0 g (w.drewN n) l r := ⟨h.1, h.2.trans (below_drewN _ w n)⟩

set_option maxRecDepth 100000 in
set_option maxHeartbeats 1000000 in
theorem wJoin (va vb : Value) (xs ys : List Ent) (w : World) (ha : RdV w va xs) (hb : RdV w vb ys) (hl : xs.length + ys.length ≤ 1000000) :
    Calls Try.prog 19 #[va, vb] w fun e w' => ∃ v', e = .returned v' ∧ OwnV w.heap.size w' v' (VM.jn xs ys) ∧ Below w.heap.size w w' := by
  have hw := wWalk 33 (.pointer (some ⟨w.heap.size, 0, none⟩)) (enters_of Try.func33 (by kernel_rfl) rfl) va vb xs ys w _
    (fun ts wr => Coll w w.heap.size wr (VM.sel max ts)) ha hb (Coll.new w) (fun ts wr h => h.below) (fun ts wr n h => h.drew n)
    (fun ts x n m wr hts h => (wAddGreater w w.heap.size _ x n m wr h (Nat.le_refl _) (by have := VM.sel_length max ts; omega)).mono fun e w' ⟨he, hc⟩ => ⟨he, by rw [VM.sel_snoc]; exact hc⟩)
  have hmf : ∀ (fn : Fn) (first cap : Array Value) (w : World), (Instr.makeFunc fn first cap).run Try.prog w = .ok (.func fn first cap) w := fun _ _ _ _ => rfl
  clear ha hb
  go_enter Try.func19, Try.ntmps19
  go_wp2_with fail
  refine hw.mono ?_
  rintro e w1 ⟨rfl, v, hv, ho, hb1⟩
  have c0 := cell_of_one hv
  clear hw hv hmf
  go_wp2
  go_ret
  exact ⟨_, rfl, ho, hb1⟩

set_option maxRecDepth 100000 in
set_option maxHeartbeats 1000000 in
theorem wMeet (va vb : Value) (xs ys : List Ent) (w : World) (ha : RdV w va xs) (hb : RdV w vb ys) (hl : xs.length + ys.length ≤ 1000000) :
    Calls Try.prog 23 #[va, vb] w fun e w' => ∃ v', e = .returned v' ∧ OwnV w.heap.size w' v' (VM.mt xs ys) ∧ Below w.heap.size w w' := by
  have hw := wWalk 34 (.pointer (some ⟨w.heap.size, 0, none⟩)) (enters_of Try.func34 (by kernel_rfl) rfl) va vb xs ys w _
    (fun ts wr => Coll w w.heap.size wr (VM.sel min ts)) ha hb (Coll.new w) (fun ts wr h => h.below) (fun ts wr n h => h.drew n)
    (fun ts x n m wr hts h => (wAddSmaller w w.heap.size _ x n m wr h (Nat.le_refl _) (by have := VM.sel_length min ts; omega)).mono fun e w' ⟨he, hc⟩ => ⟨he, by rw [VM.sel_snoc]; exact hc⟩)
  have hmf : ∀ (fn : Fn) (first cap : Array Value) (w : World), (Instr.makeFunc fn first cap).run Try.prog w = .ok (.func fn first cap) w := fun _ _ _ _ => rfl
  clear ha hb
  go_enter Try.func23, Try.ntmps23
  go_wp2_with fail
  refine hw.mono ?_
  rintro e w1 ⟨rfl, v, hv, ho, hb1⟩
  have c0 := cell_of_one hv
  clear hw hv hmf
  go_wp2
  go_ret
  exact ⟨_, rfl, ho, hb1⟩

theorem anyL_snoc (ts : List (Int × Int × Int)) (x n m : Int) : VM.anyL (ts ++ [(x, n, m)]) = (VM.anyL ts || decide (n < m)) := by simp [VM.anyL, List.any_append]
theorem anyG_snoc (ts : List (Int × Int × Int)) (x n m : Int) : VM.anyG (ts ++ [(x, n, m)]) = (VM.anyG ts || decide (m < n)) := by simp [VM.anyG, List.any_append]

set_option maxRecDepth 100000 in
set_option maxHeartbeats 1000000 in
theorem wCompareAny (va vb : Value) (xs ys : List Ent) (w : World) (ha : RdV w va xs) (hb : RdV w vb ys) :
    Calls Try.prog 25 #[va, vb] w fun e w' => e = .returned (.int .i64 (VM.code (VM.anyL (VM.mrg xs ys)) (VM.anyG (VM.mrg xs ys)))) ∧ Below w.heap.size w w' := by
  have h0 : Obs w w.heap.size (w.alloc (.cells #[.int .i64 0] 36)) (VM.anyL []) (VM.anyG []) := ⟨heap_alloc_new w _, below_fresh w _⟩
  have hw := wWalk 35 (.pointer (some ⟨w.heap.size, 0, none⟩)) (enters_of Try.func35 (by kernel_rfl) rfl) va vb xs ys w _
    (fun ts wr => Obs w w.heap.size wr (VM.anyL ts) (VM.anyG ts)) ha hb h0 (fun ts wr h => h.2) (fun ts wr n h => h.drew n)
    (fun ts x n m wr hts h => (wObserve w w.heap.size _ _ x n m wr h (Nat.le_refl _)).mono fun e w' ⟨he, hc⟩ => ⟨he, by rw [anyL_snoc, anyG_snoc]; exact hc⟩)
  have hmf : ∀ (fn : Fn) (first cap : Array Value) (w : World), (Instr.makeFunc fn first cap).run Try.prog w = .ok (.func fn first cap) w := fun _ _ _ _ => rfl
  generalize VM.anyL (VM.mrg xs ys) = l at hw ⊢
  generalize VM.anyG (VM.mrg xs ys) = r at hw ⊢
  clear ha hb h0
  go_enter Try.func25, Try.ntmps25
  go_wp2_with fail
  refine hw.mono ?_
  rintro e w1 ⟨rfl, hv, hb1⟩
  have c0 := cell_of_one hv
  clear hw hv hmf
  go_wp2
  go_ret
  exact ⟨rfl, hb1⟩

/-- The result of Compare, of valid vectors. -/
def cmp (xs ys : List Ent) : Int := VM.code (!VM.le ys xs) (!VM.le xs ys)

theorem wCompare (va vb : Value) (xs ys : List Ent) (w : World) (ha : RdV w va xs) (hb : RdV w vb ys) (hx : VM.Val 0 xs) (hy : VM.Val 0 ys) :
    Calls Try.prog 25 #[va, vb] w fun e w' => e = .returned (.int .i64 (cmp xs ys)) ∧ Below w.heap.size w w' := by
  have h := wCompareAny va vb xs ys w ha hb
  rw [VM.anyL_le hx hy, VM.anyG_le hx hy] at h
  exact h

set_option maxRecDepth 100000 in
set_option maxHeartbeats 1000000 in
theorem wLessEqual (va vb : Value) (xs ys : List Ent) (w : World) (ha : RdV w va xs) (hb : RdV w vb ys) (hx : VM.Val 0 xs) (hy : VM.Val 0 ys) :
    Calls Try.prog 21 #[va, vb] w fun e w' => e = .returned (.bool (VM.le xs ys)) ∧ Below w.heap.size w w' := by
  have h := wCompare va vb xs ys w ha hb hx hy
  unfold cmp at h
  generalize VM.le ys xs = l at h
  generalize VM.le xs ys = r at h ⊢
  clear ha hb hx hy
  cases l <;> cases r
  all_goals
    simp only [VM.code, Bool.not_true, Bool.not_false, if_true, if_false, Bool.false_eq_true, Int.reduceAdd] at h
    go_enter Try.func21, Try.ntmps21
    go_wp2_with fail
    refine h.mono ?_
    rintro e w1 ⟨rfl, hb1⟩
    clear h
    go_wp2
    go_ret
    exact ⟨rfl, hb1⟩

end Go.Proofs.Ytpgkpjdefdpiiaa
