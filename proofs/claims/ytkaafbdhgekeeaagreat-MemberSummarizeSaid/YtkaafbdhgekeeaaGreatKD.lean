/-
  The calls of proposal.Compare and the reference's CompareProposal: each returns the order of the identifiers. No conditions.
  The calls of the reference's CompareProposal and EqualProposal, of slices.Equal and proposal.Equal. Conditions: the changes read.
  The calls of proposal.Append and of the reference's AppendProposal, and of what appends numbers: the bytes of the encoding. Conditions: the bytes, numbers and changes read; the numbers are from 0 to 2^31 - 1.
  The calls of the reference's Numbers and AppendProposal: the bytes of the encoding. Conditions: the bytes, numbers and changes read; the numbers are from 0 to 2^31 - 1.
-/
import Derived.StillTailTactics
import Derived.Test.YtkaafbdhgekeeaaGreatKC
import Derived.Deep.RegionHeld3
import Derived.Deep.CutRange
import Derived.Test.YtkaafbdhgekeeaaGreatKB
namespace Go.Proofs.YtkaafbdhgekeeaaGreat
open Go.RowKit
open JM (Chg)

theorem cNaN (x : Int) (w : World) : Calls Tryz.prog 78 #[.int .i64 x] w fun e w' => e = .returned (.bool false) ∧ w' = w := by
  have hx : (x != x) = false := by simp
  go_enter Tryz.func78, Tryz.ntmps78
  go_wp2
  go_ret
  exact ⟨rfl, rfl⟩
def cmpI (x y : Int) : Int := if x < y then -1 else if y < x then 1 else 0
set_option maxHeartbeats 1000000 in
theorem cCmp (x y : Int) (w : World) : Calls Tryz.prog 50 #[.int .i64 x, .int .i64 y] w fun e w' => e = .returned (.int .i64 (cmpI x y)) ∧ w' = w := by
  have H := Lib.hid cNaN
  obtain ⟨R, hR⟩ : ∃ R, R = cmpI x y := ⟨_, rfl⟩
  rw [← hR]
  have HR := Lib.hid hR
  clear hR
  by_cases h1 : x < y
  · have e := Lib.hid (show R = -1 by rw [HR.out]; exact if_pos h1)
    go_enter Tryz.func50, Tryz.ntmps50
    go_wp2_with (go_at_call 78; refine (H.out _ _).mono ?_; rintro e w1 ⟨rfl, rfl⟩)
    go_ret
    rw [e.out]
    exact ⟨rfl, rfl⟩
  · by_cases h2 : y < x
    · have e := Lib.hid (show R = 1 by rw [HR.out, cmpI, if_neg h1, if_pos h2])
      go_enter Tryz.func50, Tryz.ntmps50
      go_wp2_with (go_at_call 78; refine (H.out _ _).mono ?_; rintro e w1 ⟨rfl, rfl⟩)
      go_ret
      rw [e.out]
      exact ⟨rfl, rfl⟩
    · have e := Lib.hid (show R = 0 by rw [HR.out, cmpI, if_neg h1, if_neg h2])
      go_enter Tryz.func50, Tryz.ntmps50
      go_wp2_with (go_at_call 78; refine (H.out _ _).mono ?_; rintro e w1 ⟨rfl, rfl⟩)
      go_ret
      rw [e.out]
      exact ⟨rfl, rfl⟩

set_option maxRecDepth 100000 in
set_option maxHeartbeats 1000000 in
theorem cOr (g : Nat) (x y : Int) (w : World) (h0 : w.cell? ⟨g, 0, none⟩ = some (.int .i64 x)) (h1 : w.cell? ⟨g, 1, none⟩ = some (.int .i64 y)) :
    Calls Tryz.prog 48 #[.slice (some ⟨g, 0, none⟩) 2 2] w fun e w' => e = .returned (.int .i64 (if x ≠ 0 then x else y)) ∧ w' = w := by
  obtain ⟨R, hR⟩ : ∃ R, R = if x ≠ 0 then x else y := ⟨_, rfl⟩
  rw [← hR]
  have HR := Lib.hid hR
  clear hR
  by_cases hx : x = 0
  · subst hx
    have e := Lib.hid (show R = y by rw [HR.out]; rfl)
    clear HR
    by_cases hy : y = 0
    · subst hy
      go_enter Tryz.func48, Tryz.ntmps48
      go_wp2
      refine wp_loop_rounds 3 ?_
      rw [rounds_succ]
      go_wp2
      rw [rounds_succ]
      go_wp2
      rw [rounds_succ]
      go_wp2
      go_ret
      rw [e.out]
      exact ⟨rfl, rfl⟩
    · have hne : (y != 0) = true := bne_t hy
      go_enter Tryz.func48, Tryz.ntmps48
      go_wp2
      refine wp_loop_rounds 3 ?_
      rw [rounds_succ]
      go_wp2
      rw [rounds_succ]
      go_wp2
      go_ret
      rw [e.out]
      exact ⟨rfl, rfl⟩
  · have e := Lib.hid (show R = x by rw [HR.out]; exact if_pos hx)
    have hne : (x != 0) = true := bne_t hx
    clear HR
    go_enter Tryz.func48, Tryz.ntmps48
    go_wp2
    refine wp_loop_rounds 3 ?_
    rw [rounds_succ]
    go_wp2
    go_ret
    rw [e.out]
    exact ⟨rfl, rfl⟩

theorem cmpP_or (a m b n : Int) : (if cmpI a b ≠ 0 then cmpI a b else cmpI m n) = JM.cmpP a m b n := by
  unfold cmpI JM.cmpP; (repeat' split) <;> omega

end Go.Proofs.YtkaafbdhgekeeaaGreat

namespace Go.Proofs.YtkaafbdhgekeeaaGreat
open Go.RowKit
open JM (Chg)

instance decChg : DecidableEq Chg := fun a b => inferInstanceAs (Decidable (a = b))

set_option maxRecDepth 100000 in
set_option maxHeartbeats 1000000 in
theorem rCompare (a m : Int) (ua : Option Addr) (ul uc : Nat) (b n : Int) (va : Option Addr) (vl vc : Nat) (w : World) :
    Calls Tryz.prog 12 #[pv a m (.slice ua ul uc), pv b n (.slice va vl vc)] w fun e w' => e = .returned (.int .i64 (JM.cmpP a m b n)) ∧ Below w.heap.size w w' := by
  obtain ⟨R, hR⟩ : ∃ R, R = JM.cmpP a m b n := ⟨_, rfl⟩
  rw [← hR]
  have HR := Lib.hid hR
  clear hR
  have hs : ∀ o : Obj, (w.alloc o).heap.size = w.heap.size + 1 := fun o => World.size_alloc _ _
  by_cases h1 : a < b
  · have e := Lib.hid (show R = -1 by rw [HR.out]; exact if_pos (.inl h1))
    clear HR
    go_enter Tryz.func12, Tryz.ntmps12
    go_wp2
    go_ret
    rw [e.out]
    exact ⟨rfl, bnext (below_fresh _ _) (below_fresh _ _)⟩
  · by_cases h2 : a = b
    · have he : (a == b) = true := beq_t h2
      by_cases h3 : m < n
      · have e := Lib.hid (show R = -1 by rw [HR.out]; exact if_pos (.inr ⟨h2, h3⟩))
        clear HR h2
        go_enter Tryz.func12, Tryz.ntmps12
        go_wp2
        go_ret
        rw [e.out]
        exact ⟨rfl, bnext (below_fresh _ _) (below_fresh _ _)⟩
      · by_cases h4 : m = n
        · have e := Lib.hid (show R = 0 by rw [HR.out, JM.cmpP, if_neg (by omega), if_pos ⟨h2, h4⟩])
          have he2 : (m == n) = true := beq_t h4
          have h3 : decide (m < n) = false := decide_eq_false h3
          clear HR h2 h4
          go_enter Tryz.func12, Tryz.ntmps12
          go_wp2
          go_ret
          rw [e.out]
          exact ⟨rfl, bnext (below_fresh _ _) (below_fresh _ _)⟩
        · have e := Lib.hid (show R = 1 by rw [HR.out, JM.cmpP, if_neg (by omega), if_neg (by omega)])
          have he2 : (m == n) = false := beq_f h4
          have h3 : decide (m < n) = false := decide_eq_false h3
          clear HR h2 h4
          go_enter Tryz.func12, Tryz.ntmps12
          go_wp2
          go_ret
          rw [e.out]
          exact ⟨rfl, bnext (below_fresh _ _) (below_fresh _ _)⟩
    · have he : (a == b) = false := beq_f h2
      have e := Lib.hid (show R = 1 by rw [HR.out, JM.cmpP, if_neg (by omega), if_neg (by omega)])
      clear HR h2
      go_enter Tryz.func12, Tryz.ntmps12
      go_wp2
      go_ret
      rw [e.out]
      exact ⟨rfl, bnext (below_fresh _ _) (below_fresh _ _)⟩

theorem neq_cv (k s t v a b c k' s' t' v' a' b' c' : Int) (B : Bool) (h : B = decide ((k, s, t, v, a, b, c) = (k', s', t', v', a', b', c'))) (w : World) :
    (binOp .neq 50 (cv k s t v a b c) (cv k' s' t' v' a' b' c')).run Tryz.prog w = .ok (.bool (!B)) w := by
  rw [h]; exact neq_chg (k, s, t, v, a, b, c) (k', s', t', v', a', b', c') w

/-- All fields are equal. -/
def eqP (a m : Int) (xs : List Chg) (b n : Int) (ys : List Chg) : Bool := decide (a = b ∧ m = n ∧ xs = ys)

end Go.Proofs.YtkaafbdhgekeeaaGreat

namespace Go.Proofs.YtkaafbdhgekeeaaGreat
open Go.RowKit
open JM (Chg)

theorem KeepsX.at {e t : TypeId} {w w' : World} (h : KeepsX e w w') {g : Nat} {cur : Array Value} {fr : Nat × Nat} (hg : w.heap[g]? = some (.cells cur t fr)) (ht : t ≠ e) : w'.heap[g]? = some (.cells cur t fr) := by
  have hlt : g < w.heap.size := (Array.getElem?_eq_some_iff.1 hg).1
  rw [h g hlt (fun cur' fr' he => by rw [hg] at he; cases he; exact ht rfl), hg]
theorem below_block {w w' : World} {g : Nat} {o : Obj} (hg : w.heap[g]? = some o) (hb : Below w.heap.size w w') : w'.heap[g]? = some o := by
  have hlt : g < w.heap.size := (Array.getElem?_eq_some_iff.1 hg).1
  rw [hb.block g hlt, hg]

section
variable {w : World} {ops : Array Oper} {rest : List Oper} {o : Oper} {a : Act} {Q : Exit → Act → World → Prop} {base : Nat} {v : Value} {ys : List Int}
/-- 'append(out, b...)' of bytes, and that blocks of other types stay. -/
theorem wp_appSK {u : Value} {zs : List Int} (hgd : o.guard = none) (s x : Operand) (ho : o.op = .call { callee := .builtin .append, args := #[s, x], argTypes := #[54, 54] })
    (hs : a.eval s = v) (hown : Own base w v ys) (hx : a.eval x = u) (hu : Rd w u zs) (hlen : ys.length ≤ 35184372088832) (hlen2 : zs.length ≤ 35184372088832) (hb : base ≤ w.heap.size)
    (h : ∀ v' w', Own base w' v' (ys ++ zs) → Below base w w' → KeepsX 5 w w' → wpList Tryz.prog ops Q rest (a.put o.dst v') w') :
    wpList Tryz.prog ops Q (o :: rest) a w := by
  obtain ⟨i0, hi, hz0, hz1, hz2⟩ := info_parts infoU8
  have hzb := hu.bytes
  obtain ⟨ad, n, c, rfl, h1, h2, h3, h4, h5, h6⟩ := hu
  subst h1
  cases ad with
  | none =>
    obtain ⟨h0, rfl⟩ := h4 rfl
    obtain rfl : zs = [] := List.eq_nil_of_length_eq_zero h0
    exact wpList_append_own_none hgd s x 54 ho base 5 i0 1 Tryz.underlying54 hi _ _ _ hs hown.1 hx (h _ _ (by simpa using hown) (Below.refl _ _) (Below.keepsX (Below.refl _ _) _))
  | some ad =>
    refine wpList_append_own _ hgd s x 54 ho base 5 i0 (.int .u8 0) 1 1 Tryz.underlying54 hi hz0 hz1 hz2 rfl (by decide) _ _ _ hs hown.1 ad zs.length c (zs.map (Value.int .u8)) hx (by simp) ?_ (ints_oneCell _ _) ?_ ?_ hb ?_
    · intro j u hj
      have hjn : j < zs.length := by
        have := (List.getElem?_eq_some_iff.1 hj).1
        simpa using this
      rw [h5 ad rfl j hjn]
      simp [List.getElem?_eq_getElem hjn] at hj
      simp [List.getD, List.getElem?_eq_getElem hjn, hj]
    · unfold maxLen; omega
    · omega
    · intro v' w1 ho1 hg1 _
      exact h v' w1 ⟨by simpa using ho1, Bytes.append hown.2 hzb⟩ ((Below.refl _ _).grown hg1 hb (fun k hk => (hown.1.lt k hk).1)) (keepsX_grown hown.1 hg1)
end

theorem CBox.of {w : World} {g : Nat} {k s t v a b c : Int} (h : w.heap[g]? = some (.cells #[.int .i64 k, .int .i64 s, .int .i64 t, .int .i64 v, .int .i64 a, .int .i64 b, .int .i64 c] 50 (0, 0))) : CBox w g k s t v a b c := by
  refine ⟨?_, ?_, ?_, ?_, ?_, ?_, ?_⟩ <;> simp [World.cell?, h]

/-- Block g is a slice of numbers, written out. -/
def IBlk (w : World) (g : Nat) (l : List Int) : Prop := w.heap[g]? = some (.cells (cellsOf encI l).toArray 3 (0, 0))
theorem IBlk.rd {w : World} {g : Nat} {l : List Int} (h : IBlk w g l) (hl : l.length ≤ maxLen) : RdI w (.slice (some ⟨g, 0, none⟩) l.length l.length) l := by
  refine OwnG.rd (e := 3) (base := g) ⟨⟨cellsOf_length hlI.2 l, .inr ⟨g, l.length, (cellsOf encI l).toArray, rfl, Nat.le_refl _, h, Nat.le_refl _, hl, by simp [cellsOf_length hlI.2], by rw [List.take_of_length_le]; simp [cellsOf_length hlI.2]⟩⟩, hlI⟩

theorem small_nat {x : Int} (h : JM.small x) : ∃ m : Nat, x = m ∧ m < 2147483648 ∧ x.toNat = m := by
  unfold JM.small at h
  obtain ⟨m, rfl⟩ := Int.eq_ofNat_of_zero_le h.1
  exact ⟨m, rfl, by omega, by omega⟩
theorem encN_snoc {l : List Int} {k : Nat} {x : Int} (h : l[k]? = some x) : JM.encN (l.take (k + 1)) = JM.encN (l.take k) ++ WM.enc x.toNat := by
  have hlt : k < l.length := (List.getElem?_eq_some_iff.1 h).1
  have hx : l[k] = x := (List.getElem?_eq_some_iff.1 h).2
  rw [← List.take_append_getElem hlt, JM.encN_append, hx]
  congr 1
  simp [JM.encN]
theorem encCs_snoc {l : List Chg} {k : Nat} {x : Chg} (h : l[k]? = some x) : JM.encCs (l.take (k + 1)) = JM.encCs (l.take k) ++ JM.encN (JM.ofChg x) := by
  have hlt : k < l.length := (List.getElem?_eq_some_iff.1 h).1
  have hx : l[k] = x := (List.getElem?_eq_some_iff.1 h).2
  rw [← List.take_append_getElem hlt, JM.encCs_append, hx]
  congr 1
  simp [JM.encCs]

end Go.Proofs.YtkaafbdhgekeeaaGreat

namespace Go.Proofs.YtkaafbdhgekeeaaGreat
open Go.RowKit
open JM (Chg)

end Go.Proofs.YtkaafbdhgekeeaaGreat
