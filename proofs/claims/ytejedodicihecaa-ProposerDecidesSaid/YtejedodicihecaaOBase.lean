/-
  Proposers in memory: a proposer by value, in a block; lists of integers and of replies. No conditions beyond those that each lemma names.
-/
import Derived.Test.YtejedodicihecaaOMath
import Derived.Test.YtejedodicihecaaOOff
namespace Go.Proofs.Ytejedodicihecaa
open Go.RowKit
open VM (Ent)

def encI (x : Int) : List Value := [.int .i64 x]
theorem intE : IsElem Try.prog 29 3 1 8 encI where
  ht := Try.underlying29
  info := by
    obtain ⟨i0, hi, hz0, hz1, hz2⟩ := info_parts (show (Try.prog.info? 3).map (fun i => (i.zero, i.size, i.bytes)) = some (some (.int .i64 0), 1, 8) by kernel_rfl)
    exact ⟨i0, _, hi, hz0, hz1, hz2, rfl⟩
  len := fun _ => rfl
  one := by intro x u hu; simp [encI] at hu; subst hu; rfl
  pos := by decide
  fits := by decide
abbrev RdI := RdG encI 1
abbrev OwnI := OwnG encI 3 1
theorem hlI : 0 < 1 ∧ ∀ x, (encI x).length = 1 := ⟨by decide, fun _ => rfl⟩
theorem drop_get {α : Type} {xs : List α} {k : Nat} (h : k < xs.length) : xs.drop k = xs[k] :: xs.drop (k + 1) := List.drop_eq_getElem_cons h
theorem atI {w : World} {a : Option Addr} {n c : Nat} {xs : List Int} (h : RdI w (.slice a n c) xs) (k : Nat) (x : Int) (hk : xs[k]? = some x) :
    ∃ b o, (∀ w0, (Instr.indexAt 29 (.slice a n c) (.int .i64 (k : Int))).run Try.prog w0 = .ok (.pointer (some ⟨b, o, none⟩)) w0) ∧ b < w.heap.size ∧ w.cell? ⟨b, o, none⟩ = some (.int .i64 x) := by
  obtain ⟨b, o, h1, h2, h3⟩ := h.at_ intE k x hk
  exact ⟨b, o, h1, h2, h3 0 _ rfl⟩
theorem atI_cell {w : World} {a : Option Addr} {n c : Nat} {xs : List Int} {b o : Nat} (h : RdI w (.slice a n c) xs) (k : Nat) (x : Int) (hk : xs[k]? = some x)
    (hi : ∀ w0, (Instr.indexAt 29 (.slice a n c) (.int .i64 (k : Int))).run Try.prog w0 = .ok (.pointer (some ⟨b, o, none⟩)) w0) : w.cell? ⟨b, o, none⟩ = some (.int .i64 x) := by
  obtain ⟨b', o', hi', _, hc⟩ := atI h k x hk
  have h1 := hi w
  rw [hi' w] at h1
  injection h1 with h1 _
  injection h1 with h1
  injection h1 with h1
  injection h1 with h1 h2 _
  subst h1 h2
  exact hc
theorem beqT {a b : Int} (h : a = b) : (a == b) = true := by simpa using h
theorem beqF {a b : Int} (h : a ≠ b) : (a == b) = false := by simpa using h
theorem bneT {a b : Int} (h : a ≠ b) : (a != b) = true := by simpa using h
theorem bneF {a b : Int} (h : a = b) : (a != b) = false := by simpa using h
theorem below_blk {w w' : World} {g : Nat} {o : Obj} (h : w.heap[g]? = some o) (hb : Below w.heap.size w w') : w'.heap[g]? = some o := by
  rw [hb.block g (Array.getElem?_eq_some_iff.1 h).1]
  exact h

/-- A proposer by value. -/
def PrV (w : World) (v : Value) (s : PM.Ps) : Prop := ∃ u k, v = .agg #[.int .i64 s.acc, u, .int .i64 s.round, k, .bool s.dec] ∧ VX.RdV w u s.val ∧ RdI w k s.acks
theorem PrV.below {w w' : World} {v : Value} {s : PM.Ps} (h : PrV w v s) (hb : Below w.heap.size w w') : PrV w' v s := by
  obtain ⟨u, k, rfl, h1, h2⟩ := h
  exact ⟨u, k, rfl, h1.below hb, h2.below hb⟩
theorem PrV.shape {w : World} {v : Value} {s : PM.Ps} (h : PrV w v s) : ∃ ua uc ka kc, v = .agg #[.int .i64 s.acc, .slice ua s.val.length uc, .int .i64 s.round, .slice ka s.acks.length kc, .bool s.dec] ∧ VX.RdV w (.slice ua s.val.length uc) s.val ∧ RdI w (.slice ka s.acks.length kc) s.acks := by
  obtain ⟨u, k, rfl, h1, h2⟩ := h
  obtain ⟨ua, uc, rfl, _, _⟩ := h1.shape
  obtain ⟨ka, kc, rfl, _, _⟩ := h2.shape
  exact ⟨ua, uc, ka, kc, rfl, h1, h2⟩

/-- A proposer of which no part lies in G. -/
abbrev PrO (G : Nat → Prop) (w : World) (v : Value) (s : PM.Ps) : Prop := Off G w fun w => PrV w v s
theorem prO {G : Nat → Prop} {w : World} {u k : Value} {s : PM.Ps} (hu : Off G w fun w => VX.RdV w u s.val) (hk : Off G w fun w => RdI w k s.acks) : PrO G w (.agg #[.int .i64 s.acc, u, .int .i64 s.round, k, .bool s.dec]) s := fun w2 h2 => ⟨u, k, rfl, hu w2 h2, hk w2 h2⟩
theorem PrO.parts {G : Nat → Prop} {w : World} {v : Value} {s : PM.Ps} (h : PrO G w v s) : ∃ ua uc ka kc, v = .agg #[.int .i64 s.acc, .slice ua s.val.length uc, .int .i64 s.round, .slice ka s.acks.length kc, .bool s.dec] ∧
    (Off G w fun w => VX.RdV w (.slice ua s.val.length uc) s.val) ∧ (Off G w fun w => RdI w (.slice ka s.acks.length kc) s.acks) := by
  obtain ⟨ua, uc, ka, kc, rfl, _, _⟩ := h.rd.shape
  refine ⟨ua, uc, ka, kc, rfl, h.imp fun w2 h2 => ?_, h.imp fun w2 h2 => ?_⟩
  · obtain ⟨u, k, e, h3, _⟩ := h2
    injection e with e
    injection e with e
    injection e with _ e
    injection e with e _
    rw [e]; exact h3
  · obtain ⟨u, k, e, _, h3⟩ := h2
    injection e with e
    injection e with e
    injection e with _ e
    injection e with _ e
    injection e with _ e
    injection e with e _
    rw [e]; exact h3
/-- A proposer's block. -/
def PrB (t : TypeId) (w : World) (g : Nat) (v : Value) : Prop := ∃ c0 c1 c2 c3 c4, v = .agg #[c0, c1, c2, c3, c4] ∧ w.heap[g]? = some (.cells #[c0, c1, c2, c3, c4] t (0, 0))
theorem PrB.below {t : TypeId} {w w' : World} {g : Nat} {v : Value} (h : PrB t w g v) (hb : Below w.heap.size w w') : PrB t w' g v := by
  obtain ⟨c0, c1, c2, c3, c4, h1, h2⟩ := h
  exact ⟨c0, c1, c2, c3, c4, h1, below_blk h2 hb⟩
theorem PrB.only {t : TypeId} {w w' : World} {g k : Nat} {v : Value} (h : PrB t w g v) (ho : Only k w w') (hne : g ≠ k) : PrB t w' g v := by
  obtain ⟨c0, c1, c2, c3, c4, h1, h2⟩ := h
  exact ⟨c0, c1, c2, c3, c4, h1, ho.at h2 hne⟩

/-- A reply: acceptor, how far behind, the vector, whether it is a proposal. -/
abbrev Rp := Int × Int × (Option Addr × Nat × Nat) × Bool
abbrev Rq := Int × Int × List Ent × Bool
def encP (r : Rp) : List Value := [.int .i64 r.1, .int .i64 r.2.1, .slice r.2.2.1.1 r.2.2.1.2.1 r.2.2.1.2.2, .bool r.2.2.2]
theorem hlP : 0 < 4 ∧ ∀ x, (encP x).length = 4 := ⟨by decide, fun _ => rfl⟩
theorem rpE : IsElem Try.prog 24 36 4 48 encP where
  ht := Try.underlying24
  info := by
    obtain ⟨i0, hi, hz0, hz1, hz2⟩ := info_parts (show (Try.prog.info? 36).map (fun i => (i.zero, i.size, i.bytes)) = some (some (.agg #[.int .i64 0, .int .i64 0, .slice none 0 0, .bool false]), 4, 48) by kernel_rfl)
    exact ⟨i0, _, hi, hz0, hz1, hz2, rfl⟩
  len := fun _ => rfl
  one := by
    intro x u hu
    simp only [encP, List.mem_cons, List.mem_nil_iff, or_false] at hu
    rcases hu with rfl | rfl | rfl | rfl <;> rfl
  pos := by decide
  fits := by decide
/-- A list of replies. -/
def RdRp (w : World) (v : Value) (l : List Rq) : Prop := ∃ ps : List (Rp × List Ent), RdG (fun p => encP p.1) 4 w v ps ∧ (∀ p ∈ ps, VX.RdV w (.slice p.1.2.2.1.1 p.1.2.2.1.2.1 p.1.2.2.1.2.2) p.2) ∧ ps.map (fun p => (p.1.1, p.1.2.1, p.2, p.1.2.2.2)) = l
theorem hlPp : 0 < 4 ∧ ∀ x : Rp × List Ent, (encP x.1).length = 4 := ⟨by decide, fun _ => rfl⟩
theorem rppE : IsElem Try.prog 24 36 4 48 (fun p : Rp × List Ent => encP p.1) :=
  { rpE with len := fun _ => rfl, one := fun x => rpE.one x.1 }
theorem RdRp.below {w w' : World} {v : Value} {l : List Rq} (h : RdRp w v l) (hb : Below w.heap.size w w') : RdRp w' v l := by
  obtain ⟨ps, h1, h2, h3⟩ := h; exact ⟨ps, h1.below hb, fun p hp => (h2 p hp).below hb, h3⟩
theorem RdRp.shape {w : World} {v : Value} {l : List Rq} (h : RdRp w v l) : ∃ a c, v = .slice a l.length c ∧ c ≤ 9223372036854775807 ∧ l.length ≤ c := by
  obtain ⟨ps, h1, _, rfl⟩ := h
  simpa using h1.shape
theorem RdRp.nil (w : World) : RdRp w (.slice none 0 0) [] := ⟨[], RdG.nil hlPp _, (fun _ h => by cases h), rfl⟩
theorem RdRp.at_ {w : World} {v : Value} {a : Option Addr} {n c : Nat} {l : List Rq} (h : RdRp w v l) (hv : v = .slice a n c) (k : Nat) (i j : Int) (x : List Ent) (b : Bool) (hk : l[k]? = some (i, j, x, b)) :
    ∃ g o ad cp, (∀ w0, (Instr.indexAt 24 (.slice a n c) (.int .i64 (k : Int))).run Try.prog w0 = .ok (.pointer (some ⟨g, o, none⟩)) w0) ∧ g < w.heap.size ∧
      w.cell? ⟨g, o, none⟩ = some (.int .i64 i) ∧ w.cell? ⟨g, o + 1, none⟩ = some (.int .i64 j) ∧ w.cell? ⟨g, o + 2, none⟩ = some (.slice ad x.length cp) ∧ w.cell? ⟨g, o + 3, none⟩ = some (.bool b) ∧ VX.RdV w (.slice ad x.length cp) x := by
  subst hv
  obtain ⟨ps, h1, h2, rfl⟩ := h
  rw [List.getElem?_map] at hk
  obtain ⟨p, hp, hx⟩ := Option.map_eq_some_iff.1 hk
  obtain ⟨⟨pi, pj, ⟨pa, pn, pc⟩, pb⟩, px⟩ := p
  simp only [Prod.mk.injEq] at hx
  obtain ⟨rfl, rfl, rfl, rfl⟩ := hx
  obtain ⟨g, o, h3, h4, h5⟩ := h1.at_ rppE k _ hp
  have hr := h2 _ (List.mem_of_getElem? hp)
  have hc := h5 2 _ rfl
  obtain ⟨ad, cp, he, _⟩ := hr.shape
  rw [he] at hr
  simp only at he hc
  rw [he] at hc
  exact ⟨g, o, ad, cp, h3, h4, h5 0 _ rfl, h5 1 _ rfl, hc, h5 3 _ rfl, hr⟩
/-- What small tells of replies. -/
structure Few (l : List Rq) : Prop where
  each : ∀ x ∈ l, x.2.2.1.length ≤ 20 ∧ VM.Val 0 x.2.2.1
  len : l.length ≤ 60
def Says16 (e : Ending) (P : Prop) : Prop := ∃ R : Bool, e = .returned (.bool R) ∧ (R = true → P)
end Go.Proofs.Ytejedodicihecaa
