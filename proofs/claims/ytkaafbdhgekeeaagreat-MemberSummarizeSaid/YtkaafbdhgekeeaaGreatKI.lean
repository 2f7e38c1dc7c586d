/-
  The calls of the laws' own Index, Digit, At, Rule, Change. Conditions: a base from 2 to 16, an index up to 40, a list whose length is at most 2^62.
  The call of the laws' Pool: a valid configuration. Conditions: the list of numbers reads; its length is at most 2^62.
  The calls of the laws' Part and Valid and of the reference's Agree. Conditions: what comes in reads; the pool is valid.
-/
import Derived.Test.YtkaafbdhgekeeaaGreatKE
import Derived.Test.YtkaafbdhgekeeaaGreatKG
import Derived.Test.YtkaafbdhgekeeaaGreatKH
namespace Go.Proofs.YtkaafbdhgekeeaaGreat
open Go.RowKit
open JM (Chg)

def ix (n k : Int) : Int := n.tmod k % k
theorem ix_pos {n k : Int} (hk : 1 ≤ k) : 0 ≤ n.tmod k + k ∧ n.tmod k + k < 2 * k := by
  have h1 := Int.tmod_lt_of_pos n (show 0 < k by omega)
  have h2 : -k < n.tmod k := by
    have := Int.lt_tmod_of_pos n (show 0 < k by omega)
    omega
  omega
theorem ix_range {n k : Int} (hk : 1 ≤ k) : 0 ≤ ix n k ∧ ix n k < k := by
  exact ⟨Int.emod_nonneg _ (by omega), Int.emod_lt_of_pos _ (by omega)⟩

def dg (n : Int) (b i : Nat) : Nat := (ix n 1099511627776).toNat / b ^ i % b
theorem dg_lt (n : Int) {b : Nat} (i : Nat) (hb : 0 < b) : dg n b i < b := Nat.mod_lt _ hb

/-- Element i of a list that is repeated without end. -/
def atV (l : List Int) (i : Nat) : Int := if l.length = 0 then 0 else l.getD (ix (i : Int) (l.length : Int)).toNat 0
theorem errC_1 {s t : Int} (h1 : 1 ≤ s) (h2 : s ≤ 12) (h3 : 1 ≤ t) (h4 : t ≤ 9) : JM.errC 1 s t 0 0 0 0 = 0 := by
  unfold JM.errC JM.fit JM.srvOf JM.wtOf JM.verOf; simp; omega
theorem errC_2 {s : Int} (h1 : 1 ≤ s) (h2 : s ≤ 12) : JM.errC 2 s 0 0 0 0 0 = 0 := by
  unfold JM.errC JM.fit JM.srvOf JM.wtOf JM.verOf; simp; omega
theorem errC_3 {s t v : Int} (h1 : 1 ≤ s) (h2 : s ≤ 12) (h3 : 1 ≤ t) (h4 : t ≤ 9) (h5 : 1 ≤ v) (h6 : v ≤ 1000) : JM.errC 3 s t v 0 0 0 = 0 := by
  unfold JM.errC JM.fit JM.srvOf JM.wtOf JM.verOf; simp; omega
theorem errC_4 {v a b c : Int} (h5 : 1 ≤ v) (h6 : v ≤ 1000) (h : JM.errR a b c = 0) : JM.errC 4 0 0 v a b c = 0 := by
  unfold JM.errC JM.fit JM.srvOf JM.wtOf JM.verOf; simp [h]; omega

end Go.Proofs.YtkaafbdhgekeeaaGreat

namespace Go.Proofs.YtkaafbdhgekeeaaGreat
open Go.RowKit
open JM (Chg)
open CM (Fp)

/-- A valid proposal whose changes are the call's own. -/
def Good (base : Nat) (w : World) (q : Pro) : Prop := ∃ cs, OwnC base w (.slice q.2.2.1 q.2.2.2.1 q.2.2.2.2) cs ∧ JM.errP q.1 q.2.1 cs = 0
theorem Good.below {base : Nat} {w w' : World} {q : Pro} (h : Good base w q) (hb : Below w.heap.size w w') : Good base w' q := by
  obtain ⟨cs, h1, h2⟩ := h; exact ⟨cs, h1.below hb, h2⟩
theorem Good.keep {base : Nat} {w w' : World} {q : Pro} (h : Good base w q) (hk : KeepsX 45 w w') : Good base w' q := by
  obtain ⟨cs, h1, h2⟩ := h; exact ⟨cs, ownG_keep h1 hk (by decide), h2⟩
theorem Good.mono {base b2 : Nat} {w : World} {q : Pro} (h : Good base w q) (hle : b2 ≤ base) : Good b2 w q := by
  obtain ⟨cs, h1, h2⟩ := h; exact ⟨cs, h1.mono hle, h2⟩


/-! The identifiers: each administrator's numbers one after the other. -/
def Nxt (pr : Int × Int) (q : Pro) : Prop := (q.1 = pr.1 ∧ q.2.1 = pr.2 + 1) ∨ (pr.1 < q.1 ∧ q.2.1 = 1)
def Chn : Int × Int → List Pro → Prop
  | _, [] => True
  | pr, q :: r => Nxt pr q ∧ Chn (q.1, q.2.1) r
def endK : Int × Int → List Pro → Int × Int
  | pr, [] => pr
  | _, q :: r => endK (q.1, q.2.1) r
theorem Chn.snoc {q : Pro} : ∀ {qs : List Pro} {pr : Int × Int}, Chn pr qs → Nxt (endK pr qs) q → Chn pr (qs ++ [q])
  | [], _, _, k => ⟨k, trivial⟩
  | _ :: _, _, h, k => ⟨h.1, Chn.snoc h.2 k⟩
theorem endK_snoc {q : Pro} : ∀ {qs : List Pro} {pr : Int × Int}, endK pr (qs ++ [q]) = (q.1, q.2.1)
  | [], _ => rfl
  | _ :: qs, _ => endK_snoc (qs := qs)
def EndAt (e : Int × Int) (j i : Nat) : Prop := (i = 0 ∧ e.1 < 201 + (j : Int)) ∨ (0 < i ∧ e = (201 + (j : Int), (i : Int)))
def GoodL (base : Nat) (w : World) (qs : List Pro) (j i : Nat) : Prop := (∀ q ∈ qs, Good base w q) ∧ Chn (0, 0) qs ∧ EndAt (endK (0, 0) qs) j i
theorem GoodL.below {base : Nat} {w w' : World} {qs : List Pro} {j i : Nat} (h : GoodL base w qs j i) (hb : Below w.heap.size w w') : GoodL base w' qs j i := ⟨fun q hq => (h.1 q hq).below hb, h.2⟩
theorem GoodL.keep {base : Nat} {w w' : World} {qs : List Pro} {j i : Nat} (h : GoodL base w qs j i) (hk : KeepsX 45 w w') : GoodL base w' qs j i := ⟨fun q hq => (h.1 q hq).keep hk, h.2⟩
theorem GoodL.snoc {base : Nat} {w : World} {qs : List Pro} {j i : Nat} {r : Option Addr × Nat × Nat} (h : GoodL base w qs j i) (k : Good base w (201 + (j : Int), (i : Int) + 1, r)) : GoodL base w (qs ++ [(201 + (j : Int), (i : Int) + 1, r)]) j (i + 1) := by
  obtain ⟨h1, h2, h3⟩ := h
  refine ⟨fun q hq => ?_, h2.snoc ?_, .inr ⟨by omega, by rw [endK_snoc]; simp⟩⟩
  · rcases List.mem_append.1 hq with hq | hq
    · exact h1 q hq
    · rw [List.mem_singleton] at hq; subst hq; exact k
  · unfold Nxt
    rcases h3 with ⟨rfl, h3⟩ | ⟨_, h3⟩
    · exact .inr ⟨h3, by simp⟩
    · rw [h3]; exact .inl ⟨rfl, rfl⟩
theorem GoodL.next {base : Nat} {w : World} {qs : List Pro} {j i : Nat} (h : GoodL base w qs j i) : GoodL base w qs (j + 1) 0 := by
  obtain ⟨h1, h2, h3⟩ := h
  refine ⟨h1, h2, .inl ⟨rfl, ?_⟩⟩
  rcases h3 with ⟨_, h3⟩ | ⟨_, h3⟩
  · omega
  · rw [h3]; simp only; omega
theorem good_ok {base : Nat} {w : World} : ∀ {qs : List Pro} {pr : Int × Int}, (∀ q ∈ qs, Good base w q) → Chn pr qs → ∃ fs, Tel w qs fs ∧ CM.errL pr fs = 0
  | [], _, _, _ => ⟨[], trivial, rfl⟩
  | q :: qs, pr, h, hc => by
    obtain ⟨fs, h1, h2⟩ := good_ok (fun q hq => h q (List.mem_cons_of_mem _ hq)) hc.2
    obtain ⟨cs, h3, h4⟩ := h q (by simp)
    have hn := hc.1
    unfold Nxt at hn
    refine ⟨(q.1, q.2.1, cs) :: fs, ⟨⟨rfl, rfl, h3.rd⟩, h1⟩, CM.errL_mk h4 ?_ (fun h5 => ?_) h2⟩
    · rw [CM.cmpP_pos]; simp only; omega
    · simp only at h5 ⊢; omega

theorem errP_list {j i : Nat} {cs : List Chg} (hj : j ≤ 2) (hi : i ≤ 2) (h0 : cs ≠ []) (h6 : cs.length ≤ 6) (h : JM.errS [] cs = 0) : JM.errP (201 + (j : Int)) ((i : Int) + 1) cs = 0 := by
  unfold JM.errP
  rw [if_neg (by rw [show JM.isAdm (201 + (j : Int)) = true from JM.isAdm_iff.2 ⟨by omega, by omega⟩]; simp; omega), if_neg h0, if_neg (by omega), h]
theorem errS_one {y : Chg} (h : JM.errCh y = 0) : JM.errS [] [y] = 0 := by
  rw [errS_cons, if_neg (by simp [h])]; rfl
theorem errS_two {y z : Chg} (h : JM.errCh y = 0) (h2 : JM.errCh z = 0) (hs : JM.sim y z = false) : JM.errS [] [y, z] = 0 := by
  rw [errS_cons, if_neg (by simp [h]), if_neg (by simp), errS_cons, if_neg (by simp [h2]), if_neg (by simp [hs])]; rfl

end Go.Proofs.YtkaafbdhgekeeaaGreat

namespace Go.Proofs.YtkaafbdhgekeeaaGreat
open Go.RowKit
open JM (Chg)
open CM (Fp)
open VM (Ent)

namespace CM
def agr1 (x : Fp) (b : List Fp) : Bool := b.all fun y => !(decide (JM.cmpP x.1 x.2.1 y.1 y.2.1 = 0) && !eqP x.1 x.2.1 x.2.2 y.1 y.2.1 y.2.2)
def agr (a b : List Fp) : Bool := a.all fun x => agr1 x b
theorem agr_iff {a b : List Fp} (h : agr a b = true) : Agr a b := by
  intro x hx y hy h1 h2
  unfold agr at h
  have h3 := List.all_eq_true.1 h x hx
  unfold agr1 at h3
  have h4 := List.all_eq_true.1 h3 y hy
  rw [decide_eq_true (JM.cmpP_zero.2 ⟨h1, h2⟩)] at h4
  have h5 : eqP x.1 x.2.1 x.2.2 y.1 y.2.1 y.2.2 = true := by simpa using h4
  have h6 := of_decide_eq_true h5
  obtain ⟨x1, x2, x3⟩ := x
  obtain ⟨y1, y2, y3⟩ := y
  obtain ⟨rfl, rfl, rfl⟩ := h6
  rfl
end CM

/-- What the laws' Valid says of two configurations. -/
def valid2 (xs ys : List Fp) : Bool := decide (CM.errL (0, 0) xs = 0) && (decide (CM.errL (0, 0) ys = 0) && CM.agr ys xs)
end Go.Proofs.YtkaafbdhgekeeaaGreat
