/-
  The calls of the reader's Count and of DecodeGenesis: they return what the plain mathematics says of the bytes. Conditions: the input reads as bytes.
  The call of values.AppendNumbers: the bytes, and behind them the numbers' encodings. Conditions: the bytes and the numbers read; the numbers are from 0 to 2^31 - 1 and few; the bytes are at most 2^40.
  The call of the program's AppendGenesis: the bytes, and behind them the genesis's encoding. Conditions: the bytes and the members read; the numbers are small, the members few.
  The mathematics of a genesis's encoding: what is encoded is decoded; numbers read from a part of the bytes. No conditions beyond those that each lemma names.
-/
import Derived.Test.YthfpafnljnnndaaGreatSM2
import Derived.Test.YthfpafnljnnndaaGreatSMCopy
import Derived.Test.YthfpafnljnnndaaGreatSMIni
import Derived.Test.YthfpafnljnnndaaGreatSKD
import Derived.Test.YthfpafnljnnndaaGreatSM1
namespace Go.Proofs.YthfpafnljnnndaaGreat
open Go.RowKit Go.Joins
open JM (Chg St)
open MM (Mem Ent Sm Tri)

/-- The members read, two numbers each. -/
def gms (xs : List Int) (s : St) : Nat → List Mem × St
  | 0 => ([], s)
  | j + 1 => ((gms xs s j).1 ++ [((JM.step xs (gms xs s j).2).1, (JM.step xs (JM.step xs (gms xs s j).2).2).1)], (JM.step xs (JM.step xs (gms xs s j).2).2).2)
/-- The answer: error, used, the rule, the members. -/
abbrev GAns := Int × Nat × Int × Int × Int × List Mem
def gbad (e : Int) : GAns := (e, 0, 0, 0, 0, [])
def gfin (k c f : Int) (u : Nat) (er : Int) (ms : List Mem) : GAns := if MM.or2 er (MM.errG k c f ms) ≠ 0 then gbad (MM.or2 er (MM.errG k c f ms)) else (0, u, k, c, f, ms)
def decG (xs : List Int) : GAns :=
  let n := JM.step xs (0, 0)
  let q : St := if 12 < n.1 then (n.2.1, 3) else n.2
  let m := gms xs q (if 12 < n.1 then 0 else n.1).toNat
  let a := JM.step xs m.2
  let b := JM.step xs a.2
  let c := JM.step xs b.2
  gfin a.1 b.1 c.1 c.2.1 c.2.2 m.1

abbrev gBox (s : Value) (k c f : Int) : Obj := .cells #[s, .int .i64 k, .int .i64 c, .int .i64 f] 35 (0, 0)
end Go.Proofs.YthfpafnljnnndaaGreat

namespace Go.Proofs.YthfpafnljnnndaaGreat
open Go.RowKit

end Go.Proofs.YthfpafnljnnndaaGreat

namespace Go.Proofs.YthfpafnljnnndaaGreat
open Go.RowKit
open MM (Mem Ent Sm Tri)

/-- The numbers of a genesis. -/
def gnum (ms : List Mem) (k c f : Int) : List Int := ((ms.length : Int) :: ms.flatMap fun m => [m.1, m.2]) ++ [k, c, f]
end Go.Proofs.YthfpafnljnnndaaGreat

namespace Go.Proofs.YthfpafnljnnndaaGreat
open JM (Chg St)
open MM (Mem Ent Sm Tri)

def flat (ms : List Mem) : List Int := ms.flatMap fun m => [m.1, m.2]
theorem val_len {p : Int} {ms : List Mem} (h : MM.Val p ms) (hp : p ≤ 12) : (ms.length : Int) ≤ 12 - p := by
  induction ms generalizing p with
  | nil => simpa using (by omega : (0 : Int) ≤ 12 - p)
  | cons m v ih =>
    obtain ⟨h1, h2, h3, h4, h5, h6⟩ := h
    have := ih h6 (by omega)
    rw [List.length_cons]
    omega
theorem gen_len {ms : List Mem} {k c f : Int} (h : MM.errG k c f ms = 0) : ms.length ≤ 12 := by
  have := val_len (MM.errG_zero h).2.1 (by decide)
  omega

end Go.Proofs.YthfpafnljnnndaaGreat
