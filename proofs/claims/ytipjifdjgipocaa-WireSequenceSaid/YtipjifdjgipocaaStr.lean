/-
  The calls of wire.AppendString, wire.String, wire.AppendBool, wire.Bool and of their four counterparts of elasticstoreref03, as P1.4 and P1.5 say them. Conditions: the slice reads as bytes; at most 2^40 bytes in what is appended to and in the string that is appended.
-/
import Derived.Test.YtipjifdjgipocaaUint
import Derived.Test.YtipjifdjgipocaaGoto
import Derived.Test.YtipjifdjgipocaaStrOwn
namespace Go.Proofs.Ytipjifdjgipocaa
open Go.RowKit
open WM (Bytes enc dec)

theorem strCells_nums (s : ByteArray) : SO.strCells s = (nums s).map (Value.int .u8) := by simp [SO.strCells, nums]

section
variable {w : World} {ops : Array Oper} {rest : List Oper} {o : Oper} {a : Act} {Q : Exit → Act → World → Prop} {base : Nat} {v : Value} {ys : List Int}
instance (c : Int) : Decidable (WM.isByte c) := inferInstanceAs (Decidable (_ ∧ _))
/-- 'append(out, s...)', out the call's own bytes, s a string. -/
theorem wp_appT {st : ByteArray} (hgd : o.guard = none) (s x : Operand) (ho : o.op = .call { callee := .builtin .append, args := #[s, x], argTypes := #[22, 9] })
    (hs : a.eval s = v) (hown : Own base w v ys) (hx : a.eval x = .string st) (hlen : ys.length ≤ 35184372088832) (hlen2 : st.size ≤ 35184372088832) (hb : base ≤ w.heap.size)
    (h : ∀ v' w', Own base w' v' (ys ++ nums st) → Below base w w' → wpList Try.prog ops Q rest (a.put o.dst v') w') :
    wpList Try.prog ops Q (o :: rest) a w := by
  obtain ⟨i0, hi, hz0, hz1, hz2⟩ := info_parts infoU8
  have hnl := nums_length st
  refine SO.wpList_append_own_string hgd s x 22 9 ho base 5 i0 (.int .u8 0) Try.underlying22 Try.underlying9 hi hz0 hz1 rfl _ _ _ hs hown.1 st hx ?_ ?_ hb ?_
  · unfold maxLen; omega
  · rw [hz2]; omega
  · intro v' w1 ho1 hg1
    exact h v' w1 ⟨by simpa [strCells_nums, hnl] using ho1, Bytes.append hown.2 (nums_bytes st)⟩ ((Below.refl _ _).grown hg1 hb (fun k hk => (hown.1.lt k hk).1))
end

set_option maxRecDepth 100000 in
set_option maxHeartbeats 1000000 in
theorem wAppendString (v : Value) (xs : List Int) (s : ByteArray) (w : World) (h : Rd w v xs) (hlen : xs.length ≤ 1099511627776) (hs : s.size ≤ 1099511627776) :
    Calls Try.prog 22 #[v, .string s] w fun e w' => ∃ v', e = .returned v' ∧ Own w.heap.size w' v' (xs ++ enc s.size ++ nums s) ∧ Below w.heap.size w w' := by
  have hc := wAppendUint v xs s.size w h hlen (by omega)
  have hl10 := WM.enc_len10 s.size (by omega)
  go_enter Try.func22, Try.ntmps22
  go_wp2_with fail
  refine hc.mono ?_
  rintro e w1 ⟨v1, rfl, hown, hb⟩
  clear hc
  have hsz := hb.size
  have hl : (xs ++ enc s.size).length ≤ 35184372088832 := by rw [List.length_append]; omega
  go_wp2_with (at_builtin; refine wp_appT rfl _ _ rfl rfl hown rfl hl (by omega) hsz ?_)
  intro v2 w2 ho2 hb2
  go_wp2
  go_ret
  exact ⟨v2, rfl, by rw [List.append_assoc]; exact ho2, hb.trans hb2⟩

set_option maxRecDepth 100000 in
set_option maxHeartbeats 1000000 in
theorem rAppendString (v : Value) (xs : List Int) (s : ByteArray) (w : World) (h : Rd w v xs) (hlen : xs.length ≤ 1099511627776) (hs : s.size ≤ 1099511627776) :
    Calls Try.prog 24 #[v, .string s] w fun e w' => ∃ v', e = .returned v' ∧ Own w.heap.size w' v' (xs ++ enc s.size ++ nums s) ∧ Below w.heap.size w w' := by
  have hc := rAppendUint v xs s.size w h hlen (by omega)
  have hl10 := WM.enc_len10 s.size (by omega)
  go_enter Try.func24, Try.ntmps24
  go_wp2_with fail
  refine hc.mono ?_
  rintro e w1 ⟨v1, rfl, hown, hb⟩
  clear hc
  have hsz := hb.size
  have hl : (xs ++ enc s.size).length ≤ 35184372088832 := by rw [List.length_append]; omega
  go_wp2_with (at_builtin; refine wp_appT rfl _ _ rfl rfl hown rfl hl (by omega) hsz ?_)
  intro v2 w2 ho2 hb2
  go_wp2
  go_ret
  exact ⟨v2, rfl, by rw [List.append_assoc]; exact ho2, hb.trans hb2⟩

/-- P1.4 of a list of bytes: the string's bytes, the bytes consumed, the error. -/
def decS (xs : List Int) : List Int × Int × Int :=
  if (dec 0 0 xs).2.2 = 0 then (if (xs.length : Int) - (dec 0 0 xs).2.1 < (dec 0 0 xs).1 then ([], 0, 1)
    else ((xs.drop (dec 0 0 xs).2.1.toNat).take (dec 0 0 xs).1.toNat, (dec 0 0 xs).2.1 + (dec 0 0 xs).1, 0)) else ([], 0, (dec 0 0 xs).2.2)

theorem decS_err {xs : List Int} {e : Int} (h : dec 0 0 xs = (0, 0, e)) (he : e ≠ 0) : decS xs = ([], 0, e) := by unfold decS; rw [h]; simp [he]
theorem decS_short {xs : List Int} {m : Nat} (h : dec 0 0 xs = ((m : Int), ((enc m).length : Int), 0)) (hl : (xs.length : Int) - (enc m).length < m) : decS xs = ([], 0, 1) := by unfold decS; rw [h]; simp [hl]
theorem decS_ok {xs : List Int} {m : Nat} (h : dec 0 0 xs = ((m : Int), ((enc m).length : Int), 0)) (hl : ¬ (xs.length : Int) - (enc m).length < m) :
    decS xs = ((xs.drop (enc m).length).take m, (((enc m).length + m : Nat) : Int), 0) := by unfold decS; rw [h]; simp [hl]

set_option maxRecDepth 100000 in
set_option maxHeartbeats 1000000 in
theorem wString (v : Value) (xs : List Int) (w : World) (h : Rd w v xs) :
    Calls Try.prog 23 #[v] w fun e w' => e = .returned (.tuple #[.string (strOfNums (decS xs).1), .int .i64 (decS xs).2.1, .int .i64 (decS xs).2.2]) ∧ w = w' := by
  have hc := wUint v xs w h
  obtain ⟨a, n, c, rfl, h1, h2, h3, _⟩ := id h
  subst h1
  unfold maxLen at h3
  rcases WM.dec_two xs h.bytes with ⟨e, he, hd⟩ | ⟨m, hm, hd, hml, _⟩
  · have he0 : e ≠ 0 := by rcases he with rfl | rfl | rfl <;> decide
    rw [hd] at hc
    rw [decS_err hd he0]
    have he2 : (e != 0) = true := by rcases he with rfl | rfl | rfl <;> rfl
    clear he hd he0 h
    go_enter Try.func23, Try.ntmps23
    go_wp2_with fail
    refine hc.mono ?_
    rintro e w1 ⟨rfl, rfl⟩
    clear hc
    go_wp2
    go_ret3
    exact ⟨rfl, rfl⟩
  · rw [hd] at hc
    by_cases hl : (xs.length : Int) - (enc m).length < m
    · rw [decS_short hd hl]
      clear hd h
      go_enter Try.func23, Try.ntmps23
      go_wp2_with fail
      refine hc.mono ?_
      rintro e w1 ⟨rfl, rfl⟩
      clear hc
      go_wp2
      go_ret3
      exact ⟨rfl, rfl⟩
    · rw [decS_ok hd hl]
      obtain ⟨v', hv', hsl, hrd⟩ := h.cut (enc m).length ((enc m).length + m) (by omega) (by omega)
      have hst := hrd.str
      rw [show (enc m).length + m - (enc m).length = m from by omega] at hst
      rw [show (((enc m).length + m : Nat) : Int) = ((enc m).length : Int) + m from by omega] at hsl ⊢
      clear hd h hrd hv' hm
      go_enter Try.func23, Try.ntmps23
      go_wp2_with fail
      refine hc.mono ?_
      rintro e w1 ⟨rfl, rfl⟩
      clear hc
      go_wp2
      go_ret3
      exact ⟨rfl, rfl⟩

set_option maxRecDepth 100000 in
set_option maxHeartbeats 1000000 in
theorem rString (v : Value) (xs : List Int) (w : World) (h : Rd w v xs) :
    Calls Try.prog 25 #[v] w fun e w' => e = .returned (.tuple #[.string (strOfNums (decS xs).1), .int .i64 (decS xs).2.1, .int .i64 (decS xs).2.2]) ∧ w = w' := by
  have hc := rUint v xs w h
  obtain ⟨a, n, c, rfl, h1, h2, h3, _⟩ := id h
  subst h1
  unfold maxLen at h3
  rcases WM.dec_two xs h.bytes with ⟨e, he, hd⟩ | ⟨m, hm, hd, hml, _⟩
  · have he0 : e ≠ 0 := by rcases he with rfl | rfl | rfl <;> decide
    rw [hd] at hc
    rw [decS_err hd he0]
    have he2 : (e != 0) = true := by rcases he with rfl | rfl | rfl <;> rfl
    clear he hd he0 h
    go_enter Try.func25, Try.ntmps25
    go_wp2_with fail
    refine hc.mono ?_
    rintro e w1 ⟨rfl, rfl⟩
    clear hc
    go_wp2
    go_ret3
    exact ⟨rfl, rfl⟩
  · rw [hd] at hc
    by_cases hl : (xs.length : Int) - (enc m).length < m
    · rw [decS_short hd hl]
      clear hd h
      go_enter Try.func25, Try.ntmps25
      go_wp2_with fail
      refine hc.mono ?_
      rintro e w1 ⟨rfl, rfl⟩
      clear hc
      go_wp2
      go_ret3
      exact ⟨rfl, rfl⟩
    · rw [decS_ok hd hl]
      obtain ⟨v', hv', hsl, hrd⟩ := h.cut (enc m).length ((enc m).length + m) (by omega) (by omega)
      have hst := hrd.str
      rw [show (enc m).length + m - (enc m).length = m from by omega] at hst
      rw [show (((enc m).length + m : Nat) : Int) = ((enc m).length : Int) + m from by omega] at hsl ⊢
      clear hd h hrd hv' hm
      go_enter Try.func25, Try.ntmps25
      go_wp2_with fail
      refine hc.mono ?_
      rintro e w1 ⟨rfl, rfl⟩
      clear hc
      go_wp2
      go_ret3
      exact ⟨rfl, rfl⟩

/-- P1.5 of a list of bytes. -/
def decB : List Int → Bool × Int × Int
  | [] => (false, 0, 1)
  | c :: _ => if 1 < c then (false, 0, 2) else (c == 1, 1, 0)
def bit (b : Bool) : Int := if b then 1 else 0

set_option maxRecDepth 100000 in
set_option maxHeartbeats 1000000 in
theorem wBool (v : Value) (xs : List Int) (w : World) (h : Rd w v xs) :
    Calls Try.prog 26 #[v] w fun e w' => e = .returned (.tuple #[.bool (decB xs).1, .int .i64 (decB xs).2.1, .int .i64 (decB xs).2.2]) ∧ w = w' := by
  have hbytes := h.bytes
  rcases h.cases with ⟨rfl, a, c, rfl, _, _⟩ | ⟨hp, b, off, c, rfl, _, hcm, _, hc⟩
  · clear hbytes h
    go_enter Try.func26, Try.ntmps26
    go_wp2
    go_ret3
    exact ⟨rfl, rfl⟩
  · clear h
    obtain ⟨y, hcell, hy0, hy1, hds⟩ := byte_at hbytes hc hp
    have hd : decB xs = decB (y :: xs.drop 1) := by rw [← hds.out]; rfl
    rw [hd]
    clear hd hds hc hbytes
    rw [Nat.add_zero] at hcell
    unfold maxLen at hcm
    have hq : ((xs.length : Int) == 0) = false := beq_eq_false_iff_ne.2 (by omega)
    by_cases h1 : 1 < y
    · have he : decB (y :: xs.drop 1) = (false, 0, 2) := by simp [decB, h1]
      rw [he]; clear he
      go_enter Try.func26, Try.ntmps26
      go_wp2
      go_ret3
      exact ⟨rfl, rfl⟩
    · have he : decB (y :: xs.drop 1) = (y == 1, 1, 0) := by simp [decB, h1]
      rw [he]; clear he
      go_enter Try.func26, Try.ntmps26
      go_wp2
      go_ret3
      exact ⟨rfl, rfl⟩

set_option maxRecDepth 100000 in
set_option maxHeartbeats 1000000 in
theorem rBool (v : Value) (xs : List Int) (w : World) (h : Rd w v xs) :
    Calls Try.prog 27 #[v] w fun e w' => e = .returned (.tuple #[.bool (decB xs).1, .int .i64 (decB xs).2.1, .int .i64 (decB xs).2.2]) ∧ w = w' := by
  have hbytes := h.bytes
  rcases h.cases with ⟨rfl, a, c, rfl, _, _⟩ | ⟨hp, b, off, c, rfl, _, hcm, _, hc⟩
  · clear hbytes h
    go_enter Try.func27, Try.ntmps27
    go_wp2
    go_ret3
    exact ⟨rfl, rfl⟩
  · clear h
    obtain ⟨y, hcell, hy0, hy1, hds⟩ := byte_at hbytes hc hp
    have hd : decB xs = decB (y :: xs.drop 1) := by rw [← hds.out]; rfl
    rw [hd]
    clear hd hds hc hbytes
    rw [Nat.add_zero] at hcell
    unfold maxLen at hcm
    have hq : ((xs.length : Int) == 0) = false := beq_eq_false_iff_ne.2 (by omega)
    by_cases h1 : 1 < y
    · have he : decB (y :: xs.drop 1) = (false, 0, 2) := by simp [decB, h1]
      rw [he]; clear he
      go_enter Try.func27, Try.ntmps27
      go_wp2
      go_ret3
      exact ⟨rfl, rfl⟩
    · have he : decB (y :: xs.drop 1) = (y == 1, 1, 0) := by simp [decB, h1]
      rw [he]; clear he
      go_enter Try.func27, Try.ntmps27
      go_wp2
      go_ret3
      exact ⟨rfl, rfl⟩

set_option maxRecDepth 100000 in
set_option maxHeartbeats 1000000 in
theorem wAppendBool (v : Value) (xs : List Int) (t : Bool) (w : World) (h : Rd w v xs) (hlen : xs.length ≤ 1099511627776) :
    Calls Try.prog 28 #[v, .bool t] w fun e w' => ∃ v', e = .returned v' ∧ Own w.heap.size w' v' (xs ++ [bit t]) ∧ Below w.heap.size w w' := by
  have hc := clone_any v xs w h hlen
  cases t
  all_goals
    go_enter Try.func28, Try.ntmps28
    go_wp2_with fail
    refine hc.mono ?_
    rintro e w1 ⟨v1, rfl, hown, hb⟩
    clear hc
    have hsz := hb.size
    go_wp2_with (at_builtin; refine wp_app1 rfl _ _ rfl rfl hown rfl (by decide) (by omega) hsz ?_)
    intro v2 w2 ho2 hb2
    go_wp2
    go_ret
    exact ⟨v2, rfl, ho2, hb.trans hb2⟩

set_option maxRecDepth 100000 in
set_option maxHeartbeats 1000000 in
theorem rAppendBool (v : Value) (xs : List Int) (t : Bool) (w : World) (h : Rd w v xs) (hlen : xs.length ≤ 1099511627776) :
    Calls Try.prog 29 #[v, .bool t] w fun e w' => ∃ v', e = .returned v' ∧ Own w.heap.size w' v' (xs ++ [bit t]) ∧ Below w.heap.size w w' := by
  have ho0 : Own w.heap.size (w.alloc (.cells #[] 5)) (.slice (some ⟨w.heap.size, 0, none⟩) 0 0) [] := ⟨World.ownsRow_made w #[] 0 (Nat.le_refl _) (Nat.zero_le _) rfl, fun _ h => by cases h⟩
  have hb0 : Below w.heap.size w (w.alloc (.cells #[] 5)) := (Below.refl _ w).alloc (Nat.le_refl _) _
  have h' := h.below hb0
  cases t
  all_goals
    go_enter Try.func29, Try.ntmps29
    go_wp2_with (at_builtin; refine wp_appS rfl _ _ rfl rfl ho0 rfl h' (by simp) (by omega) (by simp) ?_)
    intro v1 w1 ho1 hb1
    have hb2 := hb0.trans hb1
    clear ho0 hb0 h' hb1
    have hsz := hb2.size
    go_wp2_with (at_builtin; refine wp_app1 rfl _ _ rfl rfl ho1 rfl (by decide) (by omega) hsz ?_)
    intro v2 w2 ho2 hb3
    go_wp2
    go_ret
    exact ⟨v2, rfl, ho2, hb2.trans hb3⟩

end Go.Proofs.Ytipjifdjgipocaa
