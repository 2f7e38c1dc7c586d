/-
  The walks of the laws of package vector: each returns true. No conditions beyond that the arguments read as data.
-/
import Derived.Test.YtpgkpjdefdpiiaaVAwake
namespace Go.Proofs.Ytpgkpjdefdpiiaa
open Go.RowKit
open VM (Ent)

theorem cells_fresh (w : World) (us : List Value) (t : TypeId) : ∀ (i : Nat) (u : Value), us[i]? = some u → (w.alloc (.cells us.toArray t)).cell? ⟨w.heap.size, i, none⟩ = some u := by
  intro i u hu
  rw [World.cell?_alloc_new]
  simpa using hu

theorem rJoinV (va vb : Value) (xs ys : List Ent) (w : World) (ha : RdV w va xs) (hb : RdV w vb ys) (hx : VM.Val 0 xs) (hy : VM.Val 0 ys) (hlx : xs.length ≤ 400) (hly : ys.length ≤ 400) :
    Calls Try.prog 20 #[va, vb] w fun e w' => ∃ v', e = .returned v' ∧ OwnV w.heap.size w' v' (VM.jn xs ys) ∧ Below w.heap.size w w' := by
  rw [← VM.rj_jn hx hy]
  exact rJoin va vb xs ys w ha hb hy hlx hly
theorem rMeetV (va vb : Value) (xs ys : List Ent) (w : World) (ha : RdV w va xs) (hb : RdV w vb ys) (hx : VM.Val 0 xs) (hy : VM.Val 0 ys) (hlx : xs.length ≤ 400) :
    Calls Try.prog 24 #[va, vb] w fun e w' => ∃ v', e = .returned v' ∧ OwnV w.heap.size w' v' (VM.mt xs ys) ∧ Below w.heap.size w w' := by
  rw [← VM.rm_mt hx hy]
  exact rMeet va vb xs ys w ha hb hlx
/-- EqualVector of two vectors that read alike. -/
theorem rSame (va vb : Value) (xs ys : List Ent) (w : World) (ha : RdV w va xs) (hb : RdV w vb ys) (h : xs = ys) :
    Calls Try.prog 15 #[va, vb] w fun e w' => e = .returned (.bool true) ∧ Below w.heap.size w w' := by
  have := rEqual va vb xs ys w ha hb
  rwa [decide_eq_true h] at this
theorem rGood (va : Value) (xs : List Ent) (w : World) (ha : RdV w va xs) (hx : VM.Val 0 xs) :
    Calls Try.prog 12 #[va] w fun e w' => e = .returned (.int .i64 0) ∧ Below w.heap.size w w' := by
  have := rValidate va xs w ha
  rwa [(VM.err_val (Int.le_refl 0)).2 hx] at this
theorem rCountB (v : Value) (xs : List Ent) (a n : Int) (w : World) (h : RdV w v xs) (hn : VM.cnt xs a = n) :
    Calls Try.prog 18 #[v, .int .i64 a] w fun e w' => e = .returned (.int .i64 n) ∧ Below w.heap.size w w' := by
  subst hn
  refine (rCount v xs a w h).mono ?_
  rintro e w1 ⟨rfl, rfl⟩
  exact ⟨rfl, Below.refl _ _⟩
theorem wGetB (v : Value) (xs : List Ent) (a n : Int) (w : World) (h : RdV w v xs) (hv : VM.Val 0 xs) (hl : xs.length ≤ 1000) (hn : VM.cnt xs a = n) :
    Calls Try.prog 17 #[v, .int .i64 a] w fun e w' => e = .returned (.int .i64 n) ∧ Below w.heap.size w w' := by
  subst hn
  exact wGet v xs a w h hv hl
theorem wLe (va vb : Value) (xs ys : List Ent) (w : World) (b : Bool) (ha : RdV w va xs) (hb : RdV w vb ys) (hx : VM.Val 0 xs) (hy : VM.Val 0 ys) (h : VM.le xs ys = b) :
    Calls Try.prog 21 #[va, vb] w fun e w' => e = .returned (.bool b) ∧ Below w.heap.size w w' := by
  subst h
  exact wLessEqual va vb xs ys w ha hb hx hy
theorem rLe (va vb : Value) (xs ys : List Ent) (w : World) (b : Bool) (ha : RdV w va xs) (hb : RdV w vb ys) (h : VM.le xs ys = b) :
    Calls Try.prog 22 #[va, vb] w fun e w' => e = .returned (.bool b) ∧ Below w.heap.size w w' := by
  subst h
  exact rLessEqual va vb xs ys w ha hb
theorem wSizeB (v : Value) (xs : List Ent) (n : Int) (w : World) (h : RdV w v xs) (hv : VM.Val 0 xs) (hl : xs.length ≤ 1000) (hn : VM.size xs = n) :
    Calls Try.prog 26 #[v] w fun e w' => e = .returned (.int .i64 n) ∧ Below w.heap.size w w' := by
  subst hn
  exact wSize v xs w h hv hl
theorem rSizeB (v : Value) (xs : List Ent) (n : Int) (w : World) (h : RdV w v xs) (hv : VM.Val 0 xs) (hl : xs.length ≤ 1000) (hn : VM.size xs = n) :
    Calls Try.prog 27 #[v] w fun e w' => e = .returned (.int .i64 n) ∧ Below w.heap.size w w' := by
  subst hn
  refine (rSize v xs w h hv hl).mono ?_
  rintro e w1 ⟨rfl, rfl⟩
  exact ⟨rfl, Below.refl _ _⟩
theorem wCmpB (va vb : Value) (xs ys : List Ent) (w : World) (n : Int) (ha : RdV w va xs) (hb : RdV w vb ys) (hx : VM.Val 0 xs) (hy : VM.Val 0 ys) (h : cmp xs ys = n) :
    Calls Try.prog 25 #[va, vb] w fun e w' => e = .returned (.int .i64 n) ∧ Below w.heap.size w w' := by
  subst h
  exact wCompare va vb xs ys w ha hb hx hy
theorem awakeAt {B : Nat} {a w : World} (_ : Hid (Below B a w)) : Calls Try.prog 10 #[] w fun e w' => e = .returned (.bool true) ∧ Below w.heap.size w w' := awake3 w
theorem jnV {a b : List Ent} (ha : VM.Val 0 a) (hb : VM.Val 0 b) : VM.Val 0 (VM.jn a b) := (VM.jn_spec ha hb).1
theorem mtV {a b : List Ent} (ha : VM.Val 0 a) (hb : VM.Val 0 b) : VM.Val 0 (VM.mt a b) := (VM.mt_spec ha hb).1


end Go.Proofs.Ytpgkpjdefdpiiaa
