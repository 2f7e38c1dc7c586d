/-
  The calls of frame.number, elasticstoreref03.Four (four bytes read as a number), frame.appendNumber and elasticstoreref03.four (a number in four bytes). Conditions: the slice reads as bytes, four at least where they are read.
-/
import Derived.Deep.QuietTactic
import Derived.Test.YtgpbacddpfbimaaCrc
namespace Go.Proofs.Ytgpbacddpfbimaa
open Go.RowKit
open WM (Bytes)

theorem or32 (a b : Nat) (ha : a < 4294967296) (hb : b < 4294967296) : bits .or .u32 (a : Int) (b : Int) = ((a ||| b : Nat) : Int) := by
  show IntKind.u32.wrap ((BitVec.ofInt 32 (a : Int) ||| BitVec.ofInt 32 (b : Int)).toNat : Int) = _
  have := Nat.or_lt_two_pow (n := 32) (x := a) (y := b) (by omega) (by omega)
  rw [BitVec.toNat_or, ofInt32 a ha, ofInt32 b hb, wrap32 _ (by omega)]
theorem join32 (a b c d : Nat) (ha : a < 256) (hb : b < 256) (hc : c < 256) (hd : d < 256) :
    bits .or .u32 (bits .or .u32 (bits .or .u32 ((a * 16777216 : Nat) : Int) ((b * 65536 : Nat) : Int)) ((c * 256 : Nat) : Int)) (d : Int) = ((a * 16777216 + b * 65536 + c * 256 + d : Nat) : Int) := by
  have e1 : a * 16777216 ||| b * 65536 = a * 16777216 + b * 65536 := nat_join 24 _ _ (by omega) (by omega)
  have e2 : (a * 16777216 + b * 65536) ||| c * 256 = a * 16777216 + b * 65536 + c * 256 := nat_join 16 _ _ (by omega) (by omega)
  have e3 : (a * 16777216 + b * 65536 + c * 256) ||| d = a * 16777216 + b * 65536 + c * 256 + d := nat_join 8 _ _ (by omega) (by omega)
  rw [or32 _ _ (by omega) (by omega), e1, or32 _ _ (by omega) (by omega), e2, or32 _ _ (by omega) (by omega), e3]
theorem getD_of_drop {xs r : List Int} {k : Nat} {y : Int} (h : xs.drop k = y :: r) : xs.getD k 0 = y := by
  have : (xs.drop k)[0]? = some y := by rw [h]; rfl
  rw [List.getElem?_drop, Nat.add_zero] at this
  simp [List.getD, this]
theorem num_of {xs r0 r1 r2 r3 : List Int} {a b c d : Nat} (h0 : xs.drop 0 = (a : Int) :: r0) (h1 : xs.drop 1 = (b : Int) :: r1) (h2 : xs.drop 2 = (c : Int) :: r2) (h3 : xs.drop 3 = (d : Int) :: r3)
    (ha : a < 256) (hb : b < 256) (hc : c < 256) (hd : d < 256) :
    bits .or .u32 (bits .or .u32 (bits .or .u32 ((a : Int) * 16777216) ((b : Int) * 65536)) ((c : Int) * 256)) (d : Int) = FM.num xs := by
  rw [show (a : Int) * 16777216 = ((a * 16777216 : Nat) : Int) by omega, show (b : Int) * 65536 = ((b * 65536 : Nat) : Int) by omega, show (c : Int) * 256 = ((c * 256 : Nat) : Int) by omega, join32 a b c d ha hb hc hd]
  unfold FM.num
  rw [getD_of_drop h0, getD_of_drop h1, getD_of_drop h2, getD_of_drop h3]
  omega

set_option maxRecDepth 100000 in
set_option maxHeartbeats 1000000 in
theorem wNumber (v : Value) (xs : List Int) (w : World) (h : Rd w v xs) (h4 : 4 ≤ xs.length) :
    Calls Try.prog 26 #[v] w fun e w' => e = .returned (.int .u32 (FM.num xs)) ∧ ∃ m, w' = w.drewN m := by
  have hbytes := h.bytes
  rcases h.cases with ⟨rfl, _⟩ | ⟨hp, b, off, c, rfl, hlc, hcm, hbl, hc⟩
  · simp at h4
  · clear h
    unfold maxLen at hcm
    obtain ⟨y0, c0, l0, d0⟩ := cell_at hbytes hc (k := 0) (by omega)
    obtain ⟨y1, c1, l1, d1⟩ := cell_at hbytes hc (k := 1) (by omega)
    obtain ⟨y2, c2, l2, d2⟩ := cell_at hbytes hc (k := 2) (by omega)
    obtain ⟨y3, c3, l3, d3⟩ := cell_at hbytes hc (k := 3) (by omega)
    clear hc
    rw [Nat.add_zero] at c0
    have q0 : (0 : Int) < (xs.length : Int) := by omega
    have q1 : (1 : Int) < (xs.length : Int) := by omega
    have q2 : (2 : Int) < (xs.length : Int) := by omega
    have q3 : (3 : Int) < (xs.length : Int) := by omega
    go_enter Try.func26, Try.ntmps26
    go_wp2
    go_quiet (fail)
    go_wp2
    go_ret
    refine ⟨?_, _, rfl⟩
    have e := num_of d0.out d1.out d2.out d3.out l0 l1 l2 l3
    rw [← e]
    rfl

set_option maxRecDepth 100000 in
set_option maxHeartbeats 1000000 in
theorem rFour (v : Value) (xs : List Int) (w : World) (h : Rd w v xs) (h4 : 4 ≤ xs.length) :
    Calls Try.prog 28 #[v] w fun e w' => e = .returned (.int .u32 (FM.num xs)) ∧ ∃ m, w' = w.drewN m := by
  have hbytes := h.bytes
  rcases h.cases with ⟨rfl, _⟩ | ⟨hp, b, off, c, rfl, hlc, hcm, hbl, hc⟩
  · simp at h4
  · clear h
    unfold maxLen at hcm
    obtain ⟨y0, c0, l0, d0⟩ := cell_at hbytes hc (k := 0) (by omega)
    obtain ⟨y1, c1, l1, d1⟩ := cell_at hbytes hc (k := 1) (by omega)
    obtain ⟨y2, c2, l2, d2⟩ := cell_at hbytes hc (k := 2) (by omega)
    obtain ⟨y3, c3, l3, d3⟩ := cell_at hbytes hc (k := 3) (by omega)
    clear hc
    rw [Nat.add_zero] at c0
    have q0 : (0 : Int) < (xs.length : Int) := by omega
    have q1 : (1 : Int) < (xs.length : Int) := by omega
    have q2 : (2 : Int) < (xs.length : Int) := by omega
    have q3 : (3 : Int) < (xs.length : Int) := by omega
    go_enter Try.func28, Try.ntmps28
    go_wp2
    go_quiet (fail)
    go_wp2
    go_ret
    refine ⟨?_, _, rfl⟩
    have e := num_of d0.out d1.out d2.out d3.out l0 l1 l2 l3
    rw [← e]
    rfl


section
variable {w : World} {ops : Array Oper} {rest : List Oper} {o : Oper} {a : Act} {Q : Exit → Act → World → Prop} {base : Nat} {v : Value} {ys : List Int}

/-- 'append(b, y0, y1, y2, y3)', b the call's own bytes. -/
theorem wp_app4 {y0 y1 y2 y3 : Int} (hgd : o.guard = none) (s x : Operand) (ho : o.op = .call { callee := .builtin .append, args := #[s, x], argTypes := #[22, 22] })
    (hs : a.eval s = v) (hown : Own base w v ys) (hx : a.eval x = .slice (some ⟨w.heap.size, 0, none⟩) 4 4) (h0 : WM.isByte y0) (h1 : WM.isByte y1) (h2 : WM.isByte y2) (h3 : WM.isByte y3) (hlen : ys.length ≤ 70368744177664) (hb : base ≤ w.heap.size)
    (h : ∀ v' w', Own base w' v' (ys ++ [y0, y1, y2, y3]) → Below base w w' → wpList Try.prog ops Q rest (a.put o.dst v') w') :
    wpList Try.prog ops Q (o :: rest) a (w.alloc (.cells #[.int .u8 y0, .int .u8 y1, .int .u8 y2, .int .u8 y3] 5)) := by
  obtain ⟨i0, hi, hz0, hz1, hz2⟩ := info_parts infoU8
  refine wpList_append_own _ hgd s x 22 ho base 5 i0 (.int .u8 0) 1 1 Try.underlying22 hi hz0 hz1 hz2 rfl (by decide) _ _ _ hs (hown.1.alloc _) ⟨w.heap.size, 0, none⟩ 4 4 [.int .u8 y0, .int .u8 y1, .int .u8 y2, .int .u8 y3] hx rfl ?_ ?_ ?_ ?_ ?_ ?_
  · intro j u hj
    have hjl := (List.getElem?_eq_some_iff.1 hj).1
    simp only [List.length_cons, List.length_nil] at hjl
    have hf := (own_fresh w [.int .u8 y0, .int .u8 y1, .int .u8 y2, .int .u8 y3] 5 (by simp [maxLen])).cells (g := w.heap.size) rfl j u hj
    exact hf
  · intro u hu; simp at hu; rcases hu with rfl | rfl | rfl | rfl <;> rfl
  · unfold maxLen; omega
  · omega
  · simp; omega
  · intro v' w1 ho1 hg1 _
    refine h v' w1 ⟨by simpa using ho1, Bytes.append hown.2 (fun c hc => by simp at hc; rcases hc with rfl | rfl | rfl | rfl <;> assumption)⟩ (((Below.refl _ _).alloc hb _).grown hg1 (by simp; omega) (fun k hk => (hown.1.lt k hk).1))
end

set_option maxRecDepth 100000 in
set_option maxHeartbeats 1000000 in
/-- frame.appendNumber at the call's own bytes. -/
theorem wAppendNumber (base : Nat) (v : Value) (xs : List Int) (n : Nat) (w : World) (h : Own base w v xs) (hb : base ≤ w.heap.size) (hl : xs.length ≤ 35184372088832) (hn : n < 4294967296) :
    Calls Try.prog 23 #[v, .int .u32 n] w fun e w' => ∃ v', e = .returned v' ∧ Own base w' v' (xs ++ FM.four n) ∧ Below base w w' := by
  go_enter Try.func23, Try.ntmps23
  go_wp2_with (at_builtin; refine wp_app4 rfl _ _ rfl rfl h rfl ?_ ?_ ?_ ?_ (by omega) hb ?_)
  · show 0 ≤ _ ∧ _ < (256 : Int); omega
  · show 0 ≤ _ ∧ _ < (256 : Int); omega
  · show 0 ≤ _ ∧ _ < (256 : Int); omega
  · show 0 ≤ _ ∧ _ < (256 : Int); omega
  · intro v' w' ho hbl
    have e1 : ((n : Int) / 16777216) = ((n / 16777216 % 256 : Nat) : Int) := by omega
    rw [e1] at ho
    go_wp2
    go_ret
    exact ⟨_, rfl, ho, hbl⟩

set_option maxRecDepth 100000 in
set_option maxHeartbeats 1000000 in
/-- elasticstoreref03.four. -/
theorem rAppendFour (v : Value) (xs : List Int) (n : Nat) (w : World) (h : Rd w v xs) (hl : xs.length ≤ 35184372088832) (hn : n < 4294967296) :
    Calls Try.prog 25 #[v, .int .u32 n] w fun e w' => ∃ v', e = .returned v' ∧ Own w.heap.size w' v' (xs ++ FM.four n) ∧ Below w.heap.size w w' := by
  have hr := h.below ((Below.refl w.heap.size w).alloc (Nat.le_refl _) (.cells #[] 5))
  have ho : Own w.heap.size (w.alloc (.cells #[] 5)) (.slice (some ⟨w.heap.size, 0, none⟩) 0 0) [] := ⟨World.ownsRow_made w #[] 0 (Nat.le_refl _) (Nat.zero_le _) rfl, fun _ h => by cases h⟩
  have hb0 : Below w.heap.size w (w.alloc (.cells #[] 5)) := (Below.refl _ w).alloc (Nat.le_refl _) _
  go_enter Try.func25, Try.ntmps25
  go_wp2_with (at_builtin; refine wp_appS rfl _ _ rfl rfl ho rfl hr (by simp) (by omega) hb0.size ?_)
  intro v1 w1 ho1 hb1
  have hb2 := hb0.trans hb1
  clear hr ho hb0 hb1 h
  go_wp2_with (at_builtin; refine wp_app4 rfl _ _ rfl rfl ho1 rfl ?_ ?_ ?_ ?_ (by omega) hb2.size ?_)
  · show 0 ≤ _ ∧ _ < (256 : Int); omega
  · show 0 ≤ _ ∧ _ < (256 : Int); omega
  · show 0 ≤ _ ∧ _ < (256 : Int); omega
  · show 0 ≤ _ ∧ _ < (256 : Int); omega
  · intro v' w' ho hbl
    have e1 : ((n : Int) / 16777216) = ((n / 16777216 % 256 : Nat) : Int) := by omega
    rw [e1] at ho
    go_wp2
    go_ret
    exact ⟨_, rfl, ho, hb2.trans hbl⟩

end Go.Proofs.Ytgpbacddpfbimaa
