/-
  Base of the proofs of package wire: when a slice value reads as a list of bytes; what the call's own bytes are; the built-in append of a string to the call's own bytes. No conditions beyond those that each lemma names.
-/
import Derived.Test.YtacbpphhkkmelaaProg
import Derived.Test.YtacbpphhkkmelaaWireMath
import Derived.Test.YtacbpphhkkmelaaSl
import Derived.WalkKit
import Derived.ProofKit
import Derived.OpenShut
import Derived.ShutString
import Derived.ChangeOld
import Derived.Below
import Derived.WalkSpells
import Derived.WalkLawsBesides
import Derived.Laws.AppendOwnNone
import Derived.Laws.BytesArg
import Derived.Lib.Hide
import Derived.Lib.SliceRun
import Derived.ScopeJumps
import Derived.Handy
import Derived.BigQuiet
namespace Go.Proofs.Ytacbpphhkkmelaa
open Go.RowKit
open WM (Bytes)

theorem infoU8 : (Try.prog.info? 5).map (fun i => (i.zero, i.size, i.bytes)) = some (some (.int .u8 0), 1, 1) := by kernel_rfl

/-- The slice value v reads in w as the bytes xs. -/
def Rd (w : World) (v : Value) (xs : List Int) : Prop :=
  ∃ a n c, v = .slice a n c ∧ xs.length = n ∧ n ≤ c ∧ c ≤ maxLen ∧ (a = none → n = 0 ∧ c = 0) ∧
    (∀ x, a = some x → ∀ i, i < n → w.cell? (x.add i) = some (.int .u8 (xs.getD i 0))) ∧ Bytes xs

/-- The slice value v holds the bytes xs in memory of the call's own (blocks from 'base' on). -/
def Own (base : Nat) (w : World) (v : Value) (xs : List Int) : Prop := w.ownsRow base 5 1 v xs.length (xs.map (Value.int .u8)) ∧ Bytes xs

theorem Rd.bytes {w : World} {v : Value} {xs : List Int} (h : Rd w v xs) : Bytes xs := by
  obtain ⟨_, _, _, _, _, _, _, _, _, h⟩ := h; exact h

theorem Rd.nil (w : World) : Rd w (.slice none 0 0) [] := ⟨none, 0, 0, rfl, rfl, Nat.le_refl _, Nat.zero_le _, (fun _ => ⟨rfl, rfl⟩), (fun _ h => by cases h), (fun _ h => by cases h)⟩

/-- What reads in a world reads the same in a later one that keeps all older blocks. -/
theorem Rd.below {w w' : World} {v : Value} {xs : List Int} (h : Rd w v xs) (hb : Below w.heap.size w w') : Rd w' v xs := by
  obtain ⟨a, n, c, rfl, h1, h2, h3, h4, h5, h6⟩ := h
  refine ⟨a, n, c, rfl, h1, h2, h3, h4, fun x hx i hi => ?_, h6⟩
  have hc := h5 x hx i hi
  rw [hb.cell (World.block_lt_of_cell? w _ hc)]
  exact hc

theorem Own.rd {base : Nat} {w : World} {v : Value} {xs : List Int} (h : Own base w v xs) : Rd w v xs := by
  obtain ⟨⟨hl, h⟩, hb⟩ := h
  have ho : w.ownsRow base 5 1 v xs.length (xs.map (Value.int .u8)) := ⟨hl, h⟩
  rcases h with ⟨rfl, h0⟩ | ⟨g, cap, cur, rfl, hg, hh, hn, hm, hs, ht⟩
  · obtain rfl : xs = [] := List.eq_nil_of_length_eq_zero h0
    exact Rd.nil w
  · refine ⟨_, _, _, rfl, rfl, hn, hm, fun h => (by cases h), fun x hx i hi => ?_, hb⟩
    cases hx
    refine ho.cells (g := g) rfl i _ ?_
    simp [List.getD, List.getElem?_eq_getElem hi]

/-- The call's own bytes stay so while no block from 'base' on is written but new ones. -/
theorem Own.below {base : Nat} {w w' : World} {v : Value} {xs : List Int} (h : Own base w v xs) (hb : Below w.heap.size w w') : Own base w' v xs := by
  obtain ⟨h, hx⟩ := h
  refine ⟨h.kept (row := none) ⟨hb.os, hb.tape, hb.output, hb.size, fun k hk _ => hb.block k hk⟩ (by cases v.ownBlock <;> simp), hx⟩

theorem Own.mono {base base' : Nat} {w : World} {v : Value} {xs : List Int} (h : Own base w v xs) (hle : base' ≤ base) : Own base' w v xs := by
  obtain ⟨⟨hl, h⟩, hx⟩ := h
  refine ⟨⟨hl, ?_⟩, hx⟩
  rcases h with h | ⟨g, cap, cur, hv, hg, r⟩
  · exact .inl h
  · exact .inr ⟨g, cap, cur, hv, Nat.le_trans hle hg, r⟩


/-- The two shapes in which a walk takes a slice of bytes: none at all, or some at a plain address. -/
theorem Rd.cases {w : World} {v : Value} {xs : List Int} (h : Rd w v xs) :
    (xs = [] ∧ ∃ a c, v = .slice a 0 c ∧ c ≤ maxLen ∧ (a = none → c = 0)) ∨
    (0 < xs.length ∧ ∃ b off c, v = .slice (some ⟨b, off, none⟩) xs.length c ∧ xs.length ≤ c ∧ c ≤ maxLen ∧ b < w.heap.size ∧ (∀ i, i < xs.length → w.cell? ⟨b, off + i, none⟩ = some (.int .u8 (xs.getD i 0)))) := by
  obtain ⟨a, n, c, rfl, h1, h2, h3, h4, h5, h6⟩ := h
  subst h1
  by_cases h0 : xs = []
  · subst h0
    exact .inl ⟨rfl, a, c, rfl, h3, fun h => (h4 h).2⟩
  · have hp : 0 < xs.length := List.length_pos_iff.2 h0
    cases a with
    | none => have := (h4 rfl).1; omega
    | some x =>
      obtain ⟨b, off, spot⟩ := x
      have hc := h5 _ rfl 0 hp
      have hspot : spot = none := by simpa [Addr.add] using World.cell?_spot hc
      subst hspot
      have hlt := World.block_lt_of_cell? w _ hc
      refine .inr ⟨hp, b, off, c, rfl, h2, h3, by simpa [Addr.add] using hlt, fun i hi => ?_⟩
      have := h5 _ rfl i hi
      rw [addr_plain] at this
      exact this

theorem Bytes.append {xs ys : List Int} (h : Bytes xs) (k : Bytes ys) : Bytes (xs ++ ys) := fun c hc => (List.mem_append.1 hc).elim (h c) (k c)

/-- 'string(b)'. -/
theorem Rd.str {w : World} {v : Value} {xs : List Int} (h : Rd w v xs) : (convert 54 9 v).run Try.prog w = .ok (.string (strOfNums xs)) w := by
  rcases h.cases with ⟨rfl, a, c, rfl, _, hn⟩ | ⟨_, b, off, c, rfl, _, _, _, hc⟩
  · cases a with
    | none => rw [run_convert_bytes_nil w _ _ Try.underlying54 Try.underlying5 0 c _ Try.underlying9]; rfl
    | some x =>
      rw [run_convert_bytes_string w _ _ _ _ 0 c Try.underlying54 Try.underlying5 Try.underlying9]
      have := run_bytesToString (P := Try.prog) w x 0 c [] (run_loadCells_list (P := Try.prog) w x [] (fun j v hj => by rw [List.getElem?_nil] at hj; cases hj))
      rw [this]; rfl
  · exact run_convert_bytes_arg w _ _ Try.underlying54 Try.underlying5 b off xs.length c xs rfl hc _ Try.underlying9

theorem run_sizeU8 (w : World) : Sem.run Try.prog (Go.sizeOf 5) w = .ok 1 w := by
  obtain ⟨i0, hi, hz0, hz1, hz2⟩ := info_parts infoU8
  simp [Go.sizeOf, typeInfo, hi, hz1]

/-- 'b[lo:hi]': one run equation, and what it reads as. -/
theorem Rd.cut {w : World} {a : Option Addr} {n c : Nat} {xs : List Int} (h : Rd w (.slice a n c) xs) (lo hi : Nat) (h1 : lo ≤ hi) (h2 : hi ≤ xs.length) :
    ∃ v', v' = .slice (if c = lo then a else a.map (·.add lo)) (hi - lo) (c - lo) ∧ (∀ w0 : World, (Instr.slice 54 (.slice a n c) (some (.int .i64 (lo : Int))) (some (.int .i64 (hi : Int))) none).run Try.prog w0 = .ok v' w0) ∧
      Rd w v' ((xs.drop lo).take (hi - lo)) := by
  obtain ⟨a', n', c', hv, h3, h4, h5, h6, h7, h8⟩ := h
  cases hv
  refine ⟨_, rfl, fun w0 => ?_, ?_⟩
  · have e1 : (0 : Int) ≤ (lo : Int) := by omega
    have e2 : (lo : Int) ≤ (hi : Int) := by omega
    have e3 : (hi : Int) ≤ (c : Int) := by omega
    have e4 : (0 : Int) ≤ (hi : Int) := by omega
    have hz := fun w => run_sizeU8 w
    simp [Instr.slice, run_underlying Try.underlying54, Instr.sliceBounds, run_sliceBound, e1, e2, e3, e4, hz, Result.andThen]
  · refine ⟨_, hi - lo, c - lo, rfl, ?_, by omega, by omega, ?_, ?_, ?_⟩
    · rw [List.length_take, List.length_drop]; omega
    · intro hn
      have : a = none := by
        split at hn
        · exact hn
        · simpa using hn
      have := h6 this
      omega
    · intro x hx i hi'
      have hne : ¬ c = lo := by omega
      rw [if_neg hne] at hx
      obtain ⟨y, rfl, rfl⟩ := Option.map_eq_some_iff.1 hx
      have hadd : (y.add lo).add i = y.add (lo + i) := by
        have hc := h7 y rfl 0 (by omega)
        have hsp : (y.add 0) = y := by simp [Addr.add]
        rw [hsp] at hc
        have hspot : y.spot = none := World.cell?_spot hc
        obtain ⟨b, off, spot⟩ := y
        simp only at hspot
        subst hspot
        rw [addr_plain, addr_plain, addr_plain, Nat.add_assoc]
      rw [hadd, h7 y rfl (lo + i) (by omega)]
      congr 2
      simp [List.getD, List.getElem?_drop, hi']
    · intro q hq
      exact h8 q (List.mem_of_mem_drop (List.mem_of_mem_take hq))

/-- The bytes of a string, as numbers. -/
def nums (s : ByteArray) : List Int := s.data.toList.map fun b => (b.toNat : Int)
theorem nums_length (s : ByteArray) : (nums s).length = s.size := by rw [nums, List.length_map]; exact Array.length_toList
theorem nums_bytes (s : ByteArray) : Bytes (nums s) := by
  intro c hc
  obtain ⟨b, _, rfl⟩ := List.mem_map.1 hc
  have := b.toNat_lt
  unfold WM.isByte; omega
theorem strOfNums_nums (s : ByteArray) : strOfNums (nums s) = s := by
  cases s with
  | mk data =>
    simp only [strOfNums, nums, List.map_map]
    congr 1
    apply Array.ext'
    show List.map _ data.toList = data.toList
    conv => rhs; rw [← List.map_id data.toList]
    apply List.map_congr_left
    intro b _
    simp

section
variable {w : World} {ops : Array Oper} {rest : List Oper} {o : Oper} {a : Act} {Q : Exit → Act → World → Prop} {base : Nat} {v : Value} {ys : List Int}

/-- 'out = append(out, y)', out the call's own bytes. -/
theorem wp_app1 {y : Int} (hgd : o.guard = none) (s x : Operand) (ho : o.op = .call { callee := .builtin .append, args := #[s, x], argTypes := #[54, 54] })
    (hs : a.eval s = v) (hown : Own base w v ys) (hx : a.eval x = .slice (some ⟨w.heap.size, 0, none⟩) 1 1) (hy : WM.isByte y) (hlen : ys.length ≤ 70368744177664) (hb : base ≤ w.heap.size)
    (h : ∀ v' w', Own base w' v' (ys ++ [y]) → Below base w w' → wpList Try.prog ops Q rest (a.put o.dst v') w') :
    wpList Try.prog ops Q (o :: rest) a (w.alloc (.cells #[.int .u8 y] 5)) := by
  obtain ⟨i0, hi, hz0, hz1, hz2⟩ := info_parts infoU8
  refine wpList_append_own _ hgd s x 54 ho base 5 i0 (.int .u8 0) 1 1 Try.underlying54 hi hz0 hz1 hz2 rfl (by decide) _ _ _ hs (hown.1.alloc _) ⟨w.heap.size, 0, none⟩ 1 1 [.int .u8 y] hx rfl (cell_one_new _ _ _) ?_ ?_ ?_ ?_ ?_
  · intro u hu; simp at hu; subst hu; rfl
  · unfold maxLen; omega
  · omega
  · simp; omega
  · intro v' w1 ho1 hg1 _
    refine h v' w1 ⟨by simpa using ho1, Bytes.append hown.2 (fun c hc => by simp at hc; subst hc; exact hy)⟩ (((Below.refl _ _).alloc hb _).grown hg1 (by simp; omega) (fun k hk => (hown.1.lt k hk).1))

/-- 'append(out, b...)', out the call's own bytes, b any slice of bytes. -/
theorem wp_appS {u : Value} {zs : List Int} (hgd : o.guard = none) (s x : Operand) (ho : o.op = .call { callee := .builtin .append, args := #[s, x], argTypes := #[54, 54] })
    (hs : a.eval s = v) (hown : Own base w v ys) (hx : a.eval x = u) (hu : Rd w u zs) (hlen : ys.length ≤ 35184372088832) (hlen2 : zs.length ≤ 35184372088832) (hb : base ≤ w.heap.size)
    (h : ∀ v' w', Own base w' v' (ys ++ zs) → Below base w w' → wpList Try.prog ops Q rest (a.put o.dst v') w') :
    wpList Try.prog ops Q (o :: rest) a w := by
  obtain ⟨i0, hi, hz0, hz1, hz2⟩ := info_parts infoU8
  have hzb := hu.bytes
  obtain ⟨ad, n, c, rfl, h1, h2, h3, h4, h5, h6⟩ := hu
  subst h1
  cases ad with
  | none =>
    obtain ⟨h0, rfl⟩ := h4 rfl
    obtain rfl : zs = [] := List.eq_nil_of_length_eq_zero h0
    exact wpList_append_own_none hgd s x 54 ho base 5 i0 1 Try.underlying54 hi _ _ _ hs hown.1 hx (h _ _ (by simpa using hown) (Below.refl _ _))
  | some ad =>
    refine wpList_append_own _ hgd s x 54 ho base 5 i0 (.int .u8 0) 1 1 Try.underlying54 hi hz0 hz1 hz2 rfl (by decide) _ _ _ hs hown.1 ad zs.length c (zs.map (Value.int .u8)) hx (by simp) ?_ (ints_oneCell _ _) ?_ ?_ hb ?_
    · intro j u hj
      have hjn : j < zs.length := by
        have := (List.getElem?_eq_some_iff.1 hj).1
        simpa using this
      rw [h5 ad rfl j hjn]
      simp [List.getElem?_eq_getElem hjn] at hj
      simp [List.getD, List.getElem?_eq_getElem hjn, hj]
    · unfold maxLen; omega
    · omega
    · intro v' w1 ho1 hg1 _
      exact h v' w1 ⟨by simpa using ho1, Bytes.append hown.2 hzb⟩ ((Below.refl _ _).grown hg1 hb (fun k hk => (hown.1.lt k hk).1))
end

theorem own_empty (w : World) : Own w.heap.size (w.alloc (.cells #[] 5)) (.slice (some ⟨w.heap.size, 0, none⟩) 0 0) [] := ⟨World.ownsRow_made w #[] 0 (Nat.le_refl _) (Nat.zero_le _) rfl, fun _ h => by cases h⟩
theorem below_empty (w : World) : Below w.heap.size w (w.alloc (.cells #[] 5)) := (Below.refl _ w).alloc (Nat.le_refl _) _
theorem Rd.shape {w : World} {v : Value} {xs : List Int} (h : Rd w v xs) : ∃ a c, v = .slice a xs.length c ∧ c ≤ 9223372036854775807 := by
  obtain ⟨a, n, c, rfl, hn, _, hcm, _⟩ := h
  subst hn
  unfold maxLen at hcm
  exact ⟨a, c, rfl, by omega⟩

/-- What a shell tells of a slice of bytes that came in. -/
theorem rd_row {w : World} {a : Option Addr} {len cap : Nat} {zs : List Int}
    (h : (a = none ∧ len = 0 ∧ cap = 0 ∧ zs = []) ∨ ∃ x, a = some x ∧ len ≤ cap ∧ cap ≤ maxLen ∧ zs.length = cap ∧ (∀ i, i < zs.length → w.cell? (x.add i) = some (.int .u8 (zs.getD i 0))) ∧ ∀ n ∈ zs, (Lit.int .u8 n).wf = true) :
    Rd w (.slice a len cap) (zs.take len) := by
  rcases h with ⟨rfl, rfl, rfl, rfl⟩ | ⟨x, rfl, h1, h2, h3, h4, h5⟩
  · exact Rd.nil w
  · refine ⟨_, _, _, rfl, by rw [List.length_take]; omega, h1, h2, fun h => (by cases h), fun y hy i hi => ?_, fun c hc => ?_⟩
    · cases hy
      rw [h4 i (by omega)]
      congr 2
      simp [List.getD, hi]
    · have := bounds_u8 (h5 c (List.mem_of_mem_take hc))
      unfold WM.isByte; omega

theorem u64_nat {x : Int} (h : (Lit.int .u64 x).wf = true) : ∃ n : Nat, x = n ∧ n < 18446744073709551616 := by
  have := bounds_u64 h
  obtain ⟨n, rfl⟩ := Int.eq_ofNat_of_zero_le this.1
  exact ⟨n, rfl, by omega⟩

theorem u8_nat {x : Int} (h : (Lit.int .u8 x).wf = true) : ∃ n : Nat, x = n ∧ n < 256 := by
  have := bounds_u8 h
  obtain ⟨n, rfl⟩ := Int.eq_ofNat_of_zero_le this.1
  exact ⟨n, rfl, by omega⟩
theorem u16_nat {x : Int} (h : (Lit.int .u16 x).wf = true) : ∃ n : Nat, x = n ∧ n < 65536 := by
  have := bounds_u16 h
  obtain ⟨n, rfl⟩ := Int.eq_ofNat_of_zero_le this.1
  exact ⟨n, rfl, by omega⟩

/-- 'b[:hi]': one run equation, and what it reads as. -/
theorem Rd.cut0 {w : World} {a : Option Addr} {n c : Nat} {xs : List Int} (h : Rd w (.slice a n c) xs) (hi : Nat) (h2 : hi ≤ xs.length) :
    ∃ v', (∀ w0 : World, (Instr.slice 54 (.slice a n c) none (some (.int .i64 (hi : Int))) none).run Try.prog w0 = .ok v' w0) ∧ Rd w v' (xs.take hi) := by
  obtain ⟨v', hv', hsl, hrd⟩ := h.cut 0 hi (by omega) h2
  refine ⟨v', fun w0 => ?_, by simpa using hrd⟩
  rw [← hsl w0]
  have e4 : (0 : Int) ≤ (hi : Int) := by omega
  have e3 : (hi : Int) ≤ (c : Int) := by
    obtain ⟨a', n', c', hv, h3, h4, _⟩ := h
    cases hv
    omega
  have hz := fun w => run_sizeU8 w
  simp [Instr.slice, run_underlying Try.underlying54, Instr.sliceBounds, run_sliceBound, e3, e4, hz, Result.andThen]

/-- 'x[k]' of a slice of one-cell elements that came in: where the index leads, and what is there. -/
theorem index_of {w : World} {t e : TypeId} {a : Option Addr} {n c : Nat} {f : Nat → Value} (ht : Try.prog.underlying t = some (.slice e)) (hs : ∀ w, Sem.run Try.prog (Go.sizeOf e) w = .ok 1 w)
    (hn : a = none → n = 0) (hc : ∀ x, a = some x → ∀ i, i < n → w.cell? (x.add i) = some (f i)) (k : Nat) (hk : k < n) :
    ∃ p, (∀ w0, (Instr.indexAt t (.slice a n c) (.int .i64 (k : Int))).run Try.prog w0 = .ok (.pointer (some p)) w0) ∧ w.cell? p = some (f k) := by
  cases a with
  | none => have := hn rfl; omega
  | some x =>
    refine ⟨x.add k, fun w0 => ?_, hc x rfl k hk⟩
    have h1 : (0 : Int) ≤ (k : Int) := by omega
    have h2 : (k : Int) < (n : Int) := by omega
    have h3 : ¬ n ≤ k := by omega
    simp [Instr.indexAt, asIntOf, run_underlying ht, h1, hs, Result.andThen]
    intro h4
    exact absurd h4 h3

theorem run_size {e : TypeId} {z : Value} {b : Nat} (h : (Try.prog.info? e).map (fun i => (i.zero, i.size, i.bytes)) = some (some z, 1, b)) (w : World) : Sem.run Try.prog (Go.sizeOf e) w = .ok 1 w := by
  obtain ⟨i0, hi, hz0, hz1, hz2⟩ := info_parts h
  simp [Go.sizeOf, typeInfo, hi, hz1]
/-- 'b[lo:]': one run equation, and what it reads as. -/
theorem Rd.cutL {w : World} {a : Option Addr} {c : Nat} {xs : List Int} (h : Rd w (.slice a xs.length c) xs) (lo : Nat) (h2 : lo ≤ xs.length) :
    ∃ v', (∀ w0 : World, (Instr.slice 54 (.slice a xs.length c) (some (.int .i64 (lo : Int))) none none).run Try.prog w0 = .ok v' w0) ∧ Rd w v' (xs.drop lo) := by
  obtain ⟨v', hv', hsl, hrd⟩ := h.cut lo xs.length h2 (Nat.le_refl _)
  refine ⟨v', fun w0 => ?_, by rw [← List.length_drop, List.take_length] at hrd; exact hrd⟩
  rw [hv']
  have e1 : (0 : Int) ≤ (lo : Int) := by omega
  have e2 : (lo : Int) ≤ (xs.length : Int) := by omega
  have hz := fun w => run_sizeU8 w
  simp [Instr.slice, run_underlying Try.underlying54, Instr.sliceBounds, run_sliceBound, e1, e2, hz, Result.andThen]

theorem cell_at {xs : List Int} {w : World} {b off k : Nat} (h : Bytes xs) (hc : ∀ i, i < xs.length → w.cell? ⟨b, off + i, none⟩ = some (.int .u8 (xs.getD i 0))) (hk : k < xs.length) :
    ∃ y : Nat, w.cell? ⟨b, off + k, none⟩ = some (.int .u8 (y : Int)) ∧ y < 256 ∧ Hid (xs.drop k = (y : Int) :: xs.drop (k + 1)) := by
  have h1 : xs.getD k 0 = xs[k] := by simp [List.getD, List.getElem?_eq_getElem hk]
  have h2 := h _ (List.getElem_mem hk)
  unfold WM.isByte at h2
  obtain ⟨y, hy⟩ := Int.eq_ofNat_of_zero_le h2.1
  refine ⟨y, by rw [← hy, ← h1]; exact hc k hk, by omega, ?_⟩
  show _ = _
  rw [← hy]
  exact List.drop_eq_getElem_cons hk

/-- A row that is made out of the values at hand. -/
theorem own_fresh (w : World) (us : List Value) (e : TypeId) (h : us.length ≤ maxLen) : (w.alloc (.cells us.toArray e)).ownsRow w.heap.size e 1 (.slice (some ⟨w.heap.size, 0, none⟩) us.length us.length) us.length us :=
  ⟨by simp, .inr ⟨w.heap.size, us.length, us.toArray, rfl, Nat.le_refl _, heap_alloc_new w _, Nat.le_refl _, h, by simp, by simp⟩⟩

end Go.Proofs.Ytacbpphhkkmelaa
