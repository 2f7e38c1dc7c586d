/-
  Members, entries of weights, geneses and summaries in memory; the comparisons of whole structs; the small functions on servers and origins. No conditions beyond those that each lemma names.
-/
import Derived.Test.YtkaafbdhgekeeaaGreatMMath
import Derived.Test.YtkaafbdhgekeeaaGreatKI
namespace Go.Proofs.YtkaafbdhgekeeaaGreat
open Go.RowKit
open JM (Chg)
open MM (Mem Ent Sm Tri)

def encM (m : Mem) : List Value := [.int .i64 m.1, .int .i64 m.2]
def encW : Ent → List Value
  | (s, t, v, a, n) => [.int .i64 s, .int .i64 t, .int .i64 v, .int .i64 a, .int .i64 n]
abbrev wv (s t v a n : Int) : Value := .agg #[.int .i64 s, .int .i64 t, .int .i64 v, .int .i64 a, .int .i64 n]
def wvT : Ent → Value
  | (s, t, v, a, n) => wv s t v a n
abbrev mv (s t : Int) : Value := .agg #[.int .i64 s, .int .i64 t]
abbrev ov (v a n : Int) : Value := .agg #[.int .i64 v, .int .i64 a, .int .i64 n]
/-- A view's, a genesis's value; a summary's. -/
abbrev vw (s : Value) (k c f : Int) : Value := .agg #[s, .int .i64 k, .int .i64 c, .int .i64 f]
abbrev sv (x y z : Value) (k c f v a n : Int) : Value := .agg #[x, y, z, .int .i64 k, .int .i64 c, .int .i64 f, .int .i64 v, .int .i64 a, .int .i64 n]

theorem memE : IsElem Tryz.prog 22 48 2 16 encM where
  ht := Tryz.underlying22
  info := by
    obtain ⟨i0, hi, hz0, hz1, hz2⟩ := info_parts (show (Tryz.prog.info? 48).map (fun i => (i.zero, i.size, i.bytes)) = some (some (.agg #[.int .i64 0, .int .i64 0]), 2, 16) by kernel_rfl)
    exact ⟨i0, _, hi, hz0, hz1, hz2, rfl⟩
  len := fun _ => rfl
  one := by intro x u hu; simp [encM] at hu; rcases hu with rfl | rfl <;> rfl
  pos := by decide
  fits := by decide
theorem wgtE : IsElem Tryz.prog 35 62 5 40 encW where
  ht := Tryz.underlying35
  info := by
    obtain ⟨i0, hi, hz0, hz1, hz2⟩ := info_parts (show (Tryz.prog.info? 62).map (fun i => (i.zero, i.size, i.bytes)) = some (some (.agg #[.int .i64 0, .int .i64 0, .int .i64 0, .int .i64 0, .int .i64 0]), 5, 40) by kernel_rfl)
    exact ⟨i0, _, hi, hz0, hz1, hz2, rfl⟩
  len := fun _ => rfl
  one := by
    rintro ⟨s, t, v, a, n⟩ u hu
    simp only [encW, List.mem_cons, List.mem_nil_iff, or_false] at hu
    rcases hu with rfl | rfl | rfl | rfl | rfl <;> rfl
  pos := by decide
  fits := by decide
abbrev RdM := RdG encM 2
abbrev OwnM := OwnG encM 48 2
abbrev RdW := RdG encW 5
abbrev OwnW := OwnG encW 62 5
theorem hlM : 0 < 2 ∧ ∀ x, (encM x).length = 2 := ⟨by decide, fun _ => rfl⟩
theorem hlW : 0 < 5 ∧ ∀ x, (encW x).length = 5 := ⟨by decide, fun _ => rfl⟩
theorem atM {w : World} {a : Option Addr} {n c : Nat} {xs : List Mem} (h : RdM w (.slice a n c) xs) (k : Nat) (m : Mem) (hk : xs[k]? = some m) :
    ∃ b o, (∀ w0, (Instr.indexAt 22 (.slice a n c) (.int .i64 (k : Int))).run Tryz.prog w0 = .ok (.pointer (some ⟨b, o, none⟩)) w0) ∧ b < w.heap.size ∧ w.cell? ⟨b, o, none⟩ = some (.int .i64 m.1) ∧ w.cell? ⟨b, o + 1, none⟩ = some (.int .i64 m.2) := by
  obtain ⟨b, o, h1, h2, h3⟩ := h.at_ memE k m hk
  exact ⟨b, o, h1, h2, h3 0 _ rfl, h3 1 _ rfl⟩
theorem atW {w : World} {a : Option Addr} {n c : Nat} {xs : List Ent} (h : RdW w (.slice a n c) xs) (k : Nat) (s t v x y : Int) (hk : xs[k]? = some (s, t, v, x, y)) :
    ∃ b o, (∀ w0, (Instr.indexAt 35 (.slice a n c) (.int .i64 (k : Int))).run Tryz.prog w0 = .ok (.pointer (some ⟨b, o, none⟩)) w0) ∧ b < w.heap.size ∧
      w.cell? ⟨b, o, none⟩ = some (.int .i64 s) ∧ w.cell? ⟨b, o + 1, none⟩ = some (.int .i64 t) ∧ w.cell? ⟨b, o + 2, none⟩ = some (.int .i64 v) ∧ w.cell? ⟨b, o + 3, none⟩ = some (.int .i64 x) ∧ w.cell? ⟨b, o + 4, none⟩ = some (.int .i64 y) := by
  obtain ⟨b, o, h1, h2, h3⟩ := h.at_ wgtE k _ hk
  exact ⟨b, o, h1, h2, h3 0 _ rfl, h3 1 _ rfl, h3 2 _ rfl, h3 3 _ rfl, h3 4 _ rfl⟩

/-- What a genesis, a view, a summary by value reads as. -/
def RdV (w : World) (v : Value) (ms : List Mem) (k c f : Int) : Prop := ∃ s, v = vw s k c f ∧ RdM w s ms
def RdS (w : World) (v : Value) (s : Sm) : Prop := ∃ x y z, v = sv x y z s.k s.c s.f s.v s.a s.n ∧ RdI w x s.J ∧ RdI w y s.R ∧ RdW w z s.W
theorem RdV.below {w w' : World} {v : Value} {ms : List Mem} {k c f : Int} (h : RdV w v ms k c f) (hb : Below w.heap.size w w') : RdV w' v ms k c f := by
  obtain ⟨s, rfl, h⟩ := h; exact ⟨s, rfl, h.below hb⟩
theorem RdS.below {w w' : World} {v : Value} {s : Sm} (h : RdS w v s) (hb : Below w.heap.size w w') : RdS w' v s := by
  obtain ⟨x, y, z, rfl, h1, h2, h3⟩ := h; exact ⟨x, y, z, rfl, h1.below hb, h2.below hb, h3.below hb⟩

/-- A view, a genesis, a summary in a block of its own. -/
def VBox (w : World) (B : Nat) (s : Value) (k c f : Int) : Prop :=
  B < w.heap.size ∧ w.cell? ⟨B, 0, none⟩ = some s ∧ w.cell? ⟨B, 1, none⟩ = some (.int .i64 k) ∧ w.cell? ⟨B, 2, none⟩ = some (.int .i64 c) ∧ w.cell? ⟨B, 3, none⟩ = some (.int .i64 f)
theorem VBox.below {w w' : World} {B : Nat} {s : Value} {k c f : Int} (h : VBox w B s k c f) (hb : Below w.heap.size w w') : VBox w' B s k c f :=
  ⟨Nat.lt_of_lt_of_le h.1 hb.size, below_cell hb h.2.1, below_cell hb h.2.2.1, below_cell hb h.2.2.2.1, below_cell hb h.2.2.2.2⟩
theorem VBox.fresh (w : World) (t : TypeId) (s : Value) (k c f : Int) : VBox (w.alloc (.cells #[s, .int .i64 k, .int .i64 c, .int .i64 f] t)) w.heap.size s k c f :=
  ⟨by simp, by simp [World.cell?_alloc_new], by simp [World.cell?_alloc_new], by simp [World.cell?_alloc_new], by simp [World.cell?_alloc_new]⟩
def SBox (w : World) (B : Nat) (x y z : Value) (s : Sm) : Prop :=
  B < w.heap.size ∧ w.cell? ⟨B, 0, none⟩ = some x ∧ w.cell? ⟨B, 1, none⟩ = some y ∧ w.cell? ⟨B, 2, none⟩ = some z ∧ w.cell? ⟨B, 3, none⟩ = some (.int .i64 s.k) ∧ w.cell? ⟨B, 4, none⟩ = some (.int .i64 s.c) ∧
    w.cell? ⟨B, 5, none⟩ = some (.int .i64 s.f) ∧ w.cell? ⟨B, 6, none⟩ = some (.int .i64 s.v) ∧ w.cell? ⟨B, 7, none⟩ = some (.int .i64 s.a) ∧ w.cell? ⟨B, 8, none⟩ = some (.int .i64 s.n)
theorem SBox.below {w w' : World} {B : Nat} {x y z : Value} {s : Sm} (h : SBox w B x y z s) (hb : Below w.heap.size w w') : SBox w' B x y z s := by
  obtain ⟨h0, h1, h2, h3, h4, h5, h6, h7, h8, h9⟩ := h
  exact ⟨Nat.lt_of_lt_of_le h0 hb.size, below_cell hb h1, below_cell hb h2, below_cell hb h3, below_cell hb h4, below_cell hb h5, below_cell hb h6, below_cell hb h7, below_cell hb h8, below_cell hb h9⟩
abbrev sCells (x y z : Value) (s : Sm) : Array Value := #[x, y, z, .int .i64 s.k, .int .i64 s.c, .int .i64 s.f, .int .i64 s.v, .int .i64 s.a, .int .i64 s.n]
theorem SBox.fresh (w : World) (t : TypeId) (x y z : Value) (s : Sm) : SBox (w.alloc (.cells (sCells x y z s) t)) w.heap.size x y z s :=
  ⟨by simp, by simp [World.cell?_alloc_new], by simp [World.cell?_alloc_new], by simp [World.cell?_alloc_new], by simp [World.cell?_alloc_new], by simp [World.cell?_alloc_new], by simp [World.cell?_alloc_new], by simp [World.cell?_alloc_new], by simp [World.cell?_alloc_new], by simp [World.cell?_alloc_new]⟩

/-! '==' of whole structs. -/
theorem eq_wgt (s t v a n s' t' v' a' n' : Int) (w : World) : (Op.equalIn 10000 62 (wv s t v a n) (wv s' t' v' a' n')).run Tryz.prog w = .ok (decide (s = s' ∧ t = t' ∧ v = v' ∧ a = a' ∧ n = n')) w := by
  have u3 := Tryz.underlying3
  have a3 := Tryz.isAgg3
  have z3 := Tryz.sizeOf3
  have hS : Tryz.prog.underlying 62 = some (.struct (Tryz.prog.fieldsOf 62)) := by kernel_rfl
  have hp : Tryz.prog.stoodInHeld 62 = false := by kernel_rfl
  rw [show (10000 : Nat) = 9999 + 1 from rfl, run_equalIn_agg w 9999 62 _ _ hS hp]
  simp only [Program.fieldsOf, Tryz.underlying62]
  go_simp
  by_cases h1 : s = s' <;> by_cases h2 : t = t' <;> by_cases h3 : v = v' <;> by_cases h4 : a = a' <;> by_cases h5 : n = n' <;> simp [h1, h2, h3, h4, h5]
theorem neq_wgt (s t v a n s' t' v' a' n' : Int) (w : World) : (binOp .neq 62 (wv s t v a n) (wv s' t' v' a' n')).run Tryz.prog w = .ok (.bool (!decide (s = s' ∧ t = t' ∧ v = v' ∧ a = a' ∧ n = n'))) w := by
  rw [run_neq_struct, eq_wgt]; rfl
theorem eq_mem (s t s' t' : Int) (w : World) : (Op.equalIn 10000 48 (mv s t) (mv s' t')).run Tryz.prog w = .ok (decide (s = s' ∧ t = t')) w := by
  have u3 := Tryz.underlying3
  have a3 := Tryz.isAgg3
  have z3 := Tryz.sizeOf3
  have hS : Tryz.prog.underlying 48 = some (.struct (Tryz.prog.fieldsOf 48)) := by kernel_rfl
  have hp : Tryz.prog.stoodInHeld 48 = false := by kernel_rfl
  rw [show (10000 : Nat) = 9999 + 1 from rfl, run_equalIn_agg w 9999 48 _ _ hS hp]
  simp only [Program.fieldsOf, Tryz.underlying48]
  go_simp
  by_cases h1 : s = s' <;> by_cases h2 : t = t' <;> simp [h1, h2]
theorem eql_mem (s t s' t' : Int) (w : World) : (binOp .eql 48 (mv s t) (mv s' t')).run Tryz.prog w = .ok (.bool (decide (s = s' ∧ t = t'))) w := by
  rw [run_eql_struct, eq_mem]; rfl
theorem neq_mem (s t s' t' : Int) (w : World) : (binOp .neq 48 (mv s t) (mv s' t')).run Tryz.prog w = .ok (.bool (!decide (s = s' ∧ t = t'))) w := by
  rw [run_neq_struct, eq_mem]; rfl
theorem eq_org (s t v s' t' v' : Int) (w : World) : (Op.equalIn 10000 78 (ov s t v) (ov s' t' v')).run Tryz.prog w = .ok (decide (s = s' ∧ t = t' ∧ v = v')) w := by
  have u3 := Tryz.underlying3
  have a3 := Tryz.isAgg3
  have z3 := Tryz.sizeOf3
  have hS : Tryz.prog.underlying 78 = some (.struct (Tryz.prog.fieldsOf 78)) := by kernel_rfl
  have hp : Tryz.prog.stoodInHeld 78 = false := by kernel_rfl
  rw [show (10000 : Nat) = 9999 + 1 from rfl, run_equalIn_agg w 9999 78 _ _ hS hp]
  simp only [Program.fieldsOf, Tryz.underlying78]
  go_simp
  by_cases h1 : s = s' <;> by_cases h2 : t = t' <;> by_cases h3 : v = v' <;> simp [h1, h2, h3]
theorem eql_org (s t v s' t' v' : Int) (w : World) : (binOp .eql 78 (ov s t v) (ov s' t' v')).run Tryz.prog w = .ok (.bool (decide (s = s' ∧ t = t' ∧ v = v'))) w := by
  rw [run_eql_struct, eq_org]; rfl
theorem neq_org (s t v s' t' v' : Int) (w : World) : (binOp .neq 78 (ov s t v) (ov s' t' v')).run Tryz.prog w = .ok (.bool (!decide (s = s' ∧ t = t' ∧ v = v'))) w := by
  rw [run_neq_struct, eq_org]; rfl

/-! The small functions. -/
theorem mIsServer (x : Int) (w : World) : Calls Tryz.prog 72 #[.int .i64 x] w fun e w' => e = .returned (.bool (JM.isSrv x)) ∧ w = w' := cIsSrvP x w
theorem cIsServer (x : Int) (w : World) : Calls Tryz.prog 69 #[.int .i64 x] w fun e w' => e = .returned (.bool (JM.isSrv x)) ∧ w = w' := by
  obtain ⟨R, hR⟩ : ∃ R, R = JM.isSrv x := ⟨_, rfl⟩
  rw [← hR]
  by_cases h1 : 1 ≤ x
  · by_cases h2 : x ≤ 12
    · have e := Lib.hid (show R = true by rw [hR]; exact decide_eq_true ⟨h1, h2⟩)
      clear hR
      go_enter Tryz.func69, Tryz.ntmps69
      go_wp2
      go_ret
      rw [e.out]; exact ⟨rfl, rfl⟩
    · have e := Lib.hid (show R = false by rw [hR]; exact decide_eq_false (by omega))
      have hd : decide (x ≤ 12) = false := decide_eq_false h2
      clear hR
      go_enter Tryz.func69, Tryz.ntmps69
      go_wp2
      go_ret
      rw [e.out]; exact ⟨rfl, rfl⟩
  · have e := Lib.hid (show R = false by rw [hR]; exact decide_eq_false (by omega))
    have h2' : x < 1 := by omega
    clear hR h1
    go_enter Tryz.func69, Tryz.ntmps69
    go_wp2
    go_ret
    rw [e.out]; exact ⟨rfl, rfl⟩

end Go.Proofs.YtkaafbdhgekeeaaGreat
