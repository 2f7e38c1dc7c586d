/-
  The calls of bytes.Clone, wire.AppendUint and elasticstoreref03.AppendUint: each returns the given bytes and behind them the base-128 encoding, in memory of the call's own. Conditions: the slice reads as bytes, at most 2^40 of them; the number lies in the range of uint64.
  The calls of wire.Uint and elasticstoreref03.Uint: each returns what P1.2 says of the bytes (WM.dec). Conditions: the slice reads as bytes.
  The call of wire.Uint: it returns what P1.2 says of the bytes (WM.dec). Conditions: the slice reads as bytes.
  A region that draws its order, walked step by step: the library's laws with the operation written out field by field, so that the frame is laid out anew behind each step. No conditions beyond those that each lemma names.
-/
import Derived.Test.YthfpafnljnnndaaGreatSKA
import Derived.Deep.RegionHeld3
namespace Go.Proofs.YthfpafnljnnndaaGreat
open Go.RowKit
open WM (Bytes enc)

end Go.Proofs.YthfpafnljnnndaaGreat

namespace Go.Proofs.YthfpafnljnnndaaGreat
open Go.RowKit
open WM (Bytes enc dec)

end Go.Proofs.YthfpafnljnnndaaGreat

namespace Go.Proofs.YthfpafnljnnndaaGreat
open Go.RowKit
open WM (Bytes enc dec)

/-- What holds at every jump to the label of wire.Uint. -/
def UJ (w : World) (b off c : Nat) (xs : List Int) (a' : Act) (w' : World) : Prop :=
  w = w' ∧ ∃ (k X : Nat) (u7 u8 u9 u10 u11 u12 u13 u14 u15 u16 u17 u18 u19 u20 u21 u22 u23 u24 u25 u26 u27 u28 u29 u30 u31 u32 u33 u34 u35 u36 u37 u38 u39 u40 u41 u42 u43 u44 u45 u46 u47 u48 u49 u50 : Value), k ≤ xs.length ∧ 0 < k ∧ k ≤ 9 ∧ Hid (X < 128 ^ k) ∧ Hid (dec 0 0 xs = dec k X (xs.drop k)) ∧
    a' = { tmps := #[.slice (some ⟨b, off, none⟩) xs.length c, undef, .int .u64 0, .int .i64 0, .int .i64 0, .int .u64 X, .int .i64 k, u7, u8, u9, u10, u11, u12, u13, u14, u15, u16, u17, u18, u19, u20, u21, u22, u23, u24, u25, u26, u27, u28, u29, u30, u31, u32, u33, u34, u35, u36, u37, u38, u39, u40, u41, u42, u43, u44, u45, u46, u47, u48, u49, u50], defers := [] }

end Go.Proofs.YthfpafnljnnndaaGreat

namespace Go.Proofs.YthfpafnljnnndaaGreat

section
variable {P : Program} {ops : Array Oper} {Q : Exit → Act → World → Prop} {md : Region.Mode} {S : World → Prop} {i : Nat} {fuel : Nat} {listed : Array Bool} {a : Act} {w : World}
variable {d : Option Tmp} {op : Op} {ty : TypeId} {pos : String} {after : Array Edge} {gd : Option (Nat × Bool)}

theorem takeH {v : Value} (hi : ops[i]? = some ⟨d, op, ty, pos, after, gd⟩)
    (hs : Region.noSelect ops = true) (hf : Region.free md ops listed i = true) (hr : (Region.ready md ops listed).contains i = true)
    (hQ : ∀ c a w, Q (.panic c) (a.put d v) w → Q (.panic c) a w) (hy : YieldsIf P ops S ⟨d, op, ty, pos, after, gd⟩ v a) (hS : S w)
    (h : wpAnyH P md ops Q S fuel (listed.setIfInBounds i true) (a.put d v) w) : wpAnyH P md ops Q S (fuel + 1) listed a w :=
  wpAnyH_take hi hs hf hr hQ hy hS h

theorem stepH {rs : List Nat} (ho : ops[i]? = some ⟨d, op, ty, pos, after, gd⟩)
    (h : ∀ K' : Act → World → Prop, Shut (∀ a w, S w → (S w → wpAnyH P md ops Q S fuel (listed.setIfInBounds i true) a w) → K' a w) → if Region.wanted ⟨d, op, ty, pos, after, gd⟩ (yielded ops a.tmps) = true then Oper.wp P ⟨d, op, ty, pos, after, gd⟩ a w K' Q else K' (a.put d undef) w)
    (hs : AllReadyH P md ops Q S fuel listed a w rs) : AllReadyH P md ops Q S fuel listed a w (i :: rs) := AllReadyH.cons ho h hs
end

end Go.Proofs.YthfpafnljnnndaaGreat
