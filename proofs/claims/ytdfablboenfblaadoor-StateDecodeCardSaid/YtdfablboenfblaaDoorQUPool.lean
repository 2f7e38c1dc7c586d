/-
  A list of updates with their effects; the call of the laws' own Updates. Conditions: the list of numbers reads.
-/
import Derived.Test.YtdfablboenfblaaDoorQUKit2
namespace Go.Proofs.YtdfablboenfblaaDoor
open Go.RowKit
open UM (Ef)

/-- An update as it lies in a list: Client, Seq, Tag, the slice of its effects. -/
abbrev Up := Int × Int × Int × Option Addr × Nat × Nat
def encUp : Up → List Value
  | (c, q, t, a, l, k) => [.int .i64 c, .int .i64 q, .int .i64 t, .slice a l k]
theorem hlUp : 0 < 4 ∧ ∀ x, (encUp x).length = 4 := ⟨by decide, fun x => by obtain ⟨a, b, c, d, e, f⟩ := x; rfl⟩
theorem upE : IsElem Tryd.prog 23 43 4 48 encUp where
  ht := Tryd.underlying23
  info := by
    obtain ⟨i0, hi, hz0, hz1, hz2⟩ := info_parts (show (Tryd.prog.info? 43).map (fun i => (i.zero, i.size, i.bytes)) = some (some (uv 0 0 0 (.slice none 0 0)), 4, 48) by kernel_rfl)
    exact ⟨i0, _, hi, hz0, hz1, hz2, rfl⟩
  len := hlUp.2
  one := by intro x u hu; obtain ⟨a, b, c, d, e, f⟩ := x; simp [encUp] at hu; rcases hu with rfl | rfl | rfl | rfl <;> rfl
  pos := by decide
  fits := by decide
abbrev RdUp := RdG encUp 4
abbrev OwnUp := OwnG encUp 43 4
theorem atUp {w : World} {a : Option Addr} {n c : Nat} {xs : List Up} (h : RdUp w (.slice a n c) xs) (i : Nat) (x q t : Int) (ad : Option Addr) (l k : Nat) (hk : xs[i]? = some (x, q, t, ad, l, k)) :
    ∃ b o, (∀ w0, (Instr.indexAt 23 (.slice a n c) (.int .i64 (i : Int))).run Tryd.prog w0 = .ok (.pointer (some ⟨b, o, none⟩)) w0) ∧ b < w.heap.size ∧
      w.cell? ⟨b, o, none⟩ = some (.int .i64 x) ∧ w.cell? ⟨b, o + 1, none⟩ = some (.int .i64 q) ∧ w.cell? ⟨b, o + 2, none⟩ = some (.int .i64 t) ∧ w.cell? ⟨b, o + 3, none⟩ = some (.slice ad l k) := by
  obtain ⟨b, o, h1, h2, h3⟩ := h.at_ upE i _ hk
  exact ⟨b, o, h1, h2, h3 0 _ rfl, h3 1 _ rfl, h3 2 _ rfl, h3 3 _ rfl⟩
/-- A valid update, its effects the call's own. -/
def GoodU (base : Nat) (w : World) (x : Up) : Prop := ∃ es, OwnEf base w (.slice x.2.2.2.1 x.2.2.2.2.1 x.2.2.2.2.2) es ∧ UM.errU x.1 x.2.1 x.2.2.1 es = 0 ∧ ∀ e ∈ es, UM.in64 e
theorem GoodU.below {base : Nat} {w w' : World} {x : Up} (h : GoodU base w x) (hb : Below w.heap.size w w') : GoodU base w' x := by
  obtain ⟨es, h1, h2⟩ := h; exact ⟨es, h1.below hb, h2⟩
theorem GoodU.keep {base : Nat} {w w' : World} {x : Up} (h : GoodU base w x) (hk : KeepsX 43 w w') : GoodU base w' x := by
  obtain ⟨es, h1, h2⟩ := h; exact ⟨es, ownG_keep h1 hk (by decide), h2⟩

end Go.Proofs.YtdfablboenfblaaDoor
