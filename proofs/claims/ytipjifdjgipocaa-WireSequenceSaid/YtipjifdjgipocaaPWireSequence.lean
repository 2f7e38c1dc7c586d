/-
  Proved: the law WireSequence returns true for every input, and its arguments read afterwards as before. Conditions: none.
-/
import Derived.Test.YtipjifdjgipocaaRows
import Derived.Test.YtipjifdjgipocaaSeq
import Derived.Deep.Grids
namespace Go.Proofs.Ytipjifdjgipocaa.wireSequence
open Go.ChangeShapes Go.WideShapes Go.ChangeAt Go.RowKit
open Go.ChangeMaps (open_string shut_string)
set_option linter.unusedVariables false

theorem own : ownKnob Try.prog.godebug = none := by kernel_rfl
theorem laidOut : laidOutB Try.prog = true := by kernel_rfl

/-- What the walk is told of the slice of int64. -/
def IsInts (w : World) (a : Option Addr) (len cap : Nat) : Prop :=
  ∃ ls : List Int, ls.length = len ∧ len ≤ 9223372036854775807 ∧ (∀ z ∈ ls, -9223372036854775808 ≤ z ∧ z ≤ 9223372036854775807) ∧
    ∀ k (hk : k < ls.length), ∃ p, (∀ w0, (Instr.indexAt 46 (.slice a ls.length cap) (.int .i64 (k : Int))).run Try.prog w0 = .ok (.pointer (some p)) w0) ∧ w.cell? p = some (.int .i64 ls[k])
/-- Of the slice of strings. -/
def IsStrs (w : World) (a : Option Addr) (len cap : Nat) : Prop :=
  ∃ ss : List ByteArray, ss.length = len ∧ len ≤ 9223372036854775807 ∧ (∀ s ∈ ss, s.size ≤ 9223372036854775807) ∧
    ∀ k (hk : k < ss.length), ∃ p, (∀ w0, (Instr.indexAt 47 (.slice a ss.length cap) (.int .i64 (k : Int))).run Try.prog w0 = .ok (.pointer (some p)) w0) ∧ w.cell? p = some (.string ss[k])
/-- Of the slice of bools. -/
def IsBools (w : World) (a : Option Addr) (len cap : Nat) : Prop :=
  ∃ vs : List Bool, vs.length = len ∧ len ≤ 9223372036854775807 ∧
    ∀ k (hk : k < vs.length), ∃ p, (∀ w0, (Instr.indexAt 48 (.slice a vs.length cap) (.int .i64 (k : Int))).run Try.prog w0 = .ok (.pointer (some p)) w0) ∧ w.cell? p = some (.bool vs[k])

theorem ints_nil (w : World) : IsInts w none 0 0 := ⟨[], rfl, by omega, fun _ h => (by cases h), fun k hk => absurd hk (Nat.not_lt_zero k)⟩
theorem strs_nil (w : World) : IsStrs w none 0 0 := ⟨[], rfl, by omega, fun _ h => (by cases h), fun k hk => absurd hk (Nat.not_lt_zero k)⟩
theorem bools_nil (w : World) : IsBools w none 0 0 := ⟨[], rfl, by omega, fun k hk => absurd hk (Nat.not_lt_zero k)⟩

theorem ints_some {w : World} {x : Addr} {len cap : Nat} {zs : List Int} (hl : len ≤ cap) (hm : cap ≤ maxLen) (hz : zs.length = cap)
    (hc : ∀ i, i < zs.length → w.cell? (x.add i) = some (.int .i64 (zs.getD i 0))) (hw : ∀ n ∈ zs, (Lit.int .i64 n).wf = true) : IsInts w (some x) len cap := by
  have hlen : (zs.take len).length = len := by rw [List.length_take]; omega
  refine ⟨zs.take len, hlen, by unfold maxLen at hm; omega, fun z hz => bounds_i64 (hw z (List.mem_of_mem_take hz)), fun k hk => ?_⟩
  obtain ⟨p, h1, h2⟩ := index_of (w := w) (a := some x) (n := (zs.take len).length) (c := cap) (f := fun i => .int .i64 (zs.getD i 0)) Try.underlying46 (run_size infoI64) (fun h => by cases h)
    (fun y hy i hi => by cases hy; exact hc i (by omega)) k hk
  refine ⟨p, h1, h2.trans ?_⟩
  have hk2 : k < zs.length := by omega
  simp [List.getD, List.getElem?_eq_getElem hk2]

theorem strs_some {w : World} {x : Addr} {len cap : Nat} {zs : List ByteArray} (hl : len ≤ cap) (hm : cap ≤ maxLen) (hz : zs.length = cap)
    (hc : ∀ i, i < zs.length → w.cell? (x.add i) = some (.string (zs.getD i ByteArray.empty))) (hw : ∀ s ∈ zs, s.size ≤ maxLen) : IsStrs w (some x) len cap := by
  have hlen : (zs.take len).length = len := by rw [List.length_take]; omega
  refine ⟨zs.take len, hlen, by unfold maxLen at hm; omega, fun z hz => (by have := hw z (List.mem_of_mem_take hz); unfold maxLen at this; omega), fun k hk => ?_⟩
  obtain ⟨p, h1, h2⟩ := index_of (w := w) (a := some x) (n := (zs.take len).length) (c := cap) (f := fun i => .string (zs.getD i ByteArray.empty)) Try.underlying47 (run_size infoStr) (fun h => by cases h)
    (fun y hy i hi => by cases hy; exact hc i (by omega)) k hk
  refine ⟨p, h1, h2.trans ?_⟩
  have hk2 : k < zs.length := by omega
  simp [List.getD, List.getElem?_eq_getElem hk2]

theorem bools_some {w : World} {x : Addr} {len cap : Nat} {B : Nat → Bool} (hl : len ≤ cap) (hm : cap ≤ maxLen)
    (hc : ∀ i, i < cap → w.cell? (x.add i) = some (.bool (B i))) : IsBools w (some x) len cap := by
  have hlen : ((List.range len).map B).length = len := by simp
  refine ⟨(List.range len).map B, hlen, by unfold maxLen at hm; omega, fun k hk => ?_⟩
  obtain ⟨p, h1, h2⟩ := index_of (w := w) (a := some x) (n := ((List.range len).map B).length) (c := cap) (f := fun i => .bool (B i)) Try.underlying48 (run_size infoBool) (fun h => by cases h)
    (fun y hy i hi => by cases hy; exact hc i (by omega)) k hk
  refine ⟨p, h1, h2.trans ?_⟩
  simp

theorem walk (a0 : Option Addr) (len0 cap0 : Nat) (a1 : Option Addr) (len1 cap1 : Nat) (a2 : Option Addr) (len2 cap2 : Nat) (w : World) (w0 : IsInts w a0 len0 cap0) (w1 : IsStrs w a1 len1 cap1) (w2 : IsBools w a2 len2 cap2) :
    Calls Try.prog 12 #[.slice a0 len0 cap0, .slice a1 len1 cap1, .slice a2 len2 cap2] w fun e w' => e = .returned (.bool true) ∧ Below w.heap.size w w' := by
  obtain ⟨ls, rfl, hm0, hz, h0⟩ := w0
  obtain ⟨ss, rfl, hm1, hs, h1⟩ := w1
  obtain ⟨vs, rfl, hm2, h2⟩ := w2
  exact lSequence ls ss vs a0 a1 a2 cap0 cap1 cap2 w hm0 hm1 hm2 h0 h1 h2 hz hs

set_option maxRecDepth 100000 in
theorem lifted (os : Os) (started : os.Started) (H : Type) (enc : TypeId × Value → H) :
    ReturnsInHanded {} Try.checked os 12 .any (Rows.wireSequenceSpec.pre6 enc Try.prog Try.f12 Rows.wireSequenceRow.domain false) (Rows.wireSequenceSpec.post enc Try.prog Try.f12 false true false false) := by
  refine returnsInHanded_of_change (C := Try.checked) own started (by kernel_rfl) Try.func12
    (ChangeSpec.witness6 (enc := enc) (C := Try.checked) false ⟨#[], #[.slice none 0 0, .slice none 0 0, .slice none 0 0], []⟩ 8 (by kernel_rfl) (by kernel_rfl) (by kernel_rfl) (by kernel_rfl)) ?_
  intro W base args ds gs before hval0 hW hcnd _
  have hval : ∀ (j : Nat) t v, Try.f12.params[j]? = some t → args[j]? = some v → Value.okWide Try.prog W .any base t v := hval0
  have hW' := hW
  obtain ⟨p, q, hA0, hV, rfl, hfz, hnd⟩ := hW
  have hA : DataW.TrodAll enc Try.prog W 0 (fun _ => true) true Try.f12.params.toList args.toList ds p := hA0
  rw [Try.params12] at hA hval
  obtain ⟨v0, vs0, d0, ds0, p0, q0, hargs, rfl, rfl, h0, r0⟩ := trodAll_cons hA
  obtain ⟨v1, vs1, d1, ds1, p1, q1, rfl, rfl, rfl, h1, r1⟩ := trodAll_cons r0
  obtain ⟨v2, vs2, d2, ds2, p2, q2, rfl, rfl, rfl, h2, r2⟩ := trodAll_cons r1
  obtain ⟨rfl, rfl, rfl⟩ := trodAll_nil r2
  obtain rfl : args = #[v0, v1, v2] := by cases args; simp_all
  obtain ⟨rfl, rfl⟩ := trodVars_none hV
  obtain ⟨a0, len0, cap0, rfl⟩ := okWide_slice Try.underlying46 (hval 0 46 v0 rfl rfl)
  obtain ⟨a1, len1, cap1, rfl⟩ := okWide_slice Try.underlying47 (hval 1 47 v1 rfl rfl)
  obtain ⟨a2, len2, cap2, rfl⟩ := okWide_slice Try.underlying48 (hval 2 48 v2 rfl rfl)
  have k0 := h0
  have k1 := h1
  have k2 := h2
  have lt0 : ∀ x ∈ p0, x.block < W.heap.size := by obtain ⟨m, hm⟩ := k0; exact DataW.trod_lt m _ _ _ hm
  have lt1 : ∀ x ∈ p1, x.block < W.heap.size := by obtain ⟨m, hm⟩ := k1; exact DataW.trod_lt m _ _ _ hm
  have lt2 : ∀ x ∈ p2, x.block < W.heap.size := by obtain ⟨m, hm⟩ := k2; exact DataW.trod_lt m _ _ _ hm
  have w0 : IsInts W a0 len0 cap0 := by
    obtain ⟨fuel, hf⟩ := h0
    rcases open_ints Try.underlying46 Try.underlying2 (by kernel_rfl) hf with ⟨hcs, _⟩ | ⟨x, l, c, zs, hcs, _, hl, hm, hz, _, hcell, hwz⟩
    · simp [Value.cells] at hcs
      obtain ⟨rfl, rfl, rfl⟩ := hcs
      exact ints_nil W
    · simp [Value.cells] at hcs
      obtain ⟨rfl, rfl, rfl⟩ := hcs
      exact ints_some hl hm (by simpa using hz) hcell hwz
  have w1 : IsStrs W a1 len1 cap1 := by
    obtain ⟨fuel, hf⟩ := h1
    rcases open_strings Try.underlying47 Try.underlying9 (by kernel_rfl) hf with ⟨hcs, _⟩ | ⟨x, l, c, zs, hcs, _, hl, hm, hz, _, hcell, hwz⟩
    · simp [Value.cells] at hcs
      obtain ⟨rfl, rfl, rfl⟩ := hcs
      exact strs_nil W
    · simp [Value.cells] at hcs
      obtain ⟨rfl, rfl, rfl⟩ := hcs
      exact strs_some hl hm (by simpa using hz) hcell hwz
  have w2 : IsBools W a2 len2 cap2 := by
    obtain ⟨fuel, hf⟩ := h2
    rcases Deep.open_bools Try.underlying48 Try.underlying4 (by kernel_rfl) hf with ⟨hcs, _⟩ | ⟨x, l, c, B, hcs, _, hl, hm, _, hcell⟩
    · simp [Value.cells] at hcs
      obtain ⟨rfl, rfl, rfl⟩ := hcs
      exact bools_nil W
    · simp [Value.cells] at hcs
      obtain ⟨rfl, rfl, rfl⟩ := hcs
      exact bools_some hl hm hcell
  clear hA0 hval0
  refine (walk a0 len0 cap0 a1 len1 cap1 a2 len2 cap2 W w0 w1 w2).mono fun e W' ⟨he, bel⟩ => ?_
  subst he
  exact ⟨_, rfl, _, _, _, [], _, [], hW', trodAll_mk1 (shut_bool Try.underlying4 _), (trodAll_cons_mk (Below.trod laidOut (by kernel_rfl) (of_decide_eq_true (by kernel_rfl)) k0 bel lt0) (trodAll_cons_mk (Below.trod laidOut (by kernel_rfl) (of_decide_eq_true (by kernel_rfl)) k1 bel lt1) (trodAll_cons_mk (Below.trod laidOut (by kernel_rfl) (of_decide_eq_true (by kernel_rfl)) k2 bel lt2) trodAll_mk0))), rfl, bel.frame _, fun h => by cases h⟩

theorem over : Rows.wireSequenceRow.holds Try.pinned (OpenSpec.ofChange Rows.wireSequenceSpec) :=
  OpenClaim.holds_of_wide 12 Try.f12 rfl rfl rfl rfl rfl rfl rfl ⟨rfl, rfl, rfl, rfl, rfl⟩ rfl rfl rfl rfl rfl (by kernel_rfl) Try.func12 (by kernel_rfl)
    (of_decide_eq_true (by kernel_rfl)) (by unfold Func.isWrapper; first | (rw [if_pos (by decide +kernel)]; kernel_rfl) | (rw [if_neg (by decide +kernel)]; exact ⟨rfl, rfl⟩))
    (fun os started H enc _ => lifted os started H enc)

/-- THE STATEMENT -/
theorem proved : Rows.WireSequenceSaid := over
end Go.Proofs.Ytipjifdjgipocaa.wireSequence
