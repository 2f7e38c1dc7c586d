/-
  The mathematics of summaries: sorted lists by key, their lookups, the union of two, an insertion; validity; the join, the summary of a proposal, the view. No program. No conditions beyond those that each lemma names.
-/
import Derived.Test.YtkaafbdhgekeeaaGreatKC
namespace Go.Proofs.YtkaafbdhgekeeaaGreat.MM
open JM (Chg)

abbrev Mem := Int × Int
abbrev Ent := Int × Int × Int × Int × Int
abbrev Tri := Int × Int × Int

/-! Members. -/
def off (m : Mem) : Bool := decide (m.1 < 1 ∨ 12 < m.1 ∨ m.2 < 1 ∨ 9 < m.2)
def errM : Int → List Mem → Int
  | _, [] => 0
  | p, m :: v => if off m = true then 9 else if m.1 ≤ p then 7 else errM m.1 v
def errV (k c f : Int) (ms : List Mem) : Int := if JM.errR k c f = 0 then errM 0 ms else JM.errR k c f
/-- What ValidateGenesis says. -/
def errG (k c f : Int) (ms : List Mem) : Int := if errV k c f ms = 0 then (if ms = [] then 2 else 0) else errV k c f ms
def Val : Int → List Mem → Prop
  | _, [] => True
  | p, m :: v => p < m.1 ∧ 1 ≤ m.1 ∧ m.1 ≤ 12 ∧ 1 ≤ m.2 ∧ m.2 ≤ 9 ∧ Val m.1 v
theorem errM_val {p : Int} {ms : List Mem} : errM p ms = 0 ↔ Val p ms := by
  induction ms generalizing p with
  | nil => simp [errM, Val]
  | cons m v ih =>
    unfold errM Val off
    by_cases h1 : m.1 < 1 ∨ 12 < m.1 ∨ m.2 < 1 ∨ 9 < m.2
    · rw [if_pos (by simpa using h1)]
      constructor
      · intro h; cases h
      · intro h; omega
    · rw [if_neg (by simpa using h1)]
      by_cases h2 : m.1 ≤ p
      · rw [if_pos h2]
        constructor
        · intro h; cases h
        · intro h; omega
      · rw [if_neg h2, ih]
        constructor
        · intro h; exact ⟨by omega, by omega, by omega, by omega, by omega, h⟩
        · intro h; exact h.2.2.2.2.2

/-! Lists that ascend by a key. -/
section
variable {α : Type} (key : α → Int)
def Srt (l : List α) : Prop := l.Pairwise fun x y => key x < key y
def lk : List α → Int → Option α
  | [], _ => none
  | y :: l, x => if key y = x then some y else lk l x
def comb (pk : α → α → α) : Option α → Option α → Option α
  | some p, some q => some (pk p q)
  | some p, none => some p
  | none, o => o
theorem comb_none (pk : α → α → α) (o : Option α) : comb pk o none = o := by cases o <;> rfl
theorem Srt.tl {x : α} {l : List α} (h : Srt key (x :: l)) : Srt key l := (List.pairwise_cons.1 h).2
theorem Srt.hd {x : α} {l : List α} (h : Srt key (x :: l)) : ∀ y ∈ l, key x < key y := (List.pairwise_cons.1 h).1
theorem lk_none {l : List α} {x : Int} (h : ∀ y ∈ l, key y ≠ x) : lk key l x = none := by
  induction l with
  | nil => rfl
  | cons y l ih => rw [lk, if_neg (h y (by simp)), ih (fun z hz => h z (by simp [hz]))]
theorem lk_some {l : List α} {x : Int} {p : α} (h : lk key l x = some p) : p ∈ l ∧ key p = x := by
  induction l with
  | nil => cases h
  | cons y l ih =>
    rw [lk] at h
    split at h
    · rename_i hy; cases h; exact ⟨by simp, hy⟩
    · have := ih h; exact ⟨by simp [this.1], this.2⟩
theorem lk_mem {l : List α} (h : Srt key l) {p : α} (hp : p ∈ l) : lk key l (key p) = some p := by
  induction l with
  | nil => cases hp
  | cons y l ih =>
    rcases List.mem_cons.1 hp with rfl | h1
    · rw [lk, if_pos rfl]
    · have := h.hd key p h1
      rw [lk, if_neg (by omega), ih (h.tl key) h1]
theorem lk_iff {l : List α} (h : Srt key l) {x : Int} {p : α} : lk key l x = some p ↔ p ∈ l ∧ key p = x :=
  ⟨lk_some key, fun ⟨h1, h2⟩ => by rw [← h2]; exact lk_mem key h h1⟩
theorem ext : ∀ {l l' : List α}, Srt key l → Srt key l' → (∀ x, lk key l x = lk key l' x) → l = l'
  | [], [], _, _, _ => rfl
  | [], y :: l', _, _, h => by have := h (key y); simp [lk] at this
  | x :: l, [], _, _, h => by have := h (key x); simp [lk] at this
  | x :: l, y :: l', h1, h2, h => by
    have a1 := h1.hd key
    have a2 := h2.hd key
    have hxy : x = y := by
      have e1 := h (key x)
      have e2 := h (key y)
      rw [lk, if_pos rfl, lk] at e1
      rw [lk, lk, if_pos rfl] at e2
      by_cases hk : key y = key x
      · rw [if_pos hk] at e1; exact Option.some.inj e1
      · rw [if_neg hk] at e1
        rw [if_neg (fun e => hk e.symm)] at e2
        have b1 := lk_some key e1.symm
        have b2 := lk_some key e2
        have := a2 x b1.1
        have := a1 y b2.1
        omega
    subst hxy
    congr 1
    refine ext (h1.tl key) (h2.tl key) fun z => ?_
    have e := h z
    rw [lk, lk] at e
    by_cases hz : key x = z
    · rw [lk_none key (fun y hy => by have := a1 y hy; omega), lk_none key (fun y hy => by have := a2 y hy; omega)]
    · rw [if_neg hz, if_neg hz] at e; exact e

variable (pk : α → α → α)
/-- The union of two. -/
def mg : List α → List α → List α
  | [], b => b
  | x :: a, [] => x :: a
  | x :: a, y :: b => if key x < key y then x :: mg a (y :: b) else if key y < key x then y :: mg (x :: a) b else pk x y :: mg a b
termination_by a b => a.length + b.length
theorem mg_nil (b : List α) : mg key pk [] b = b := by rw [mg]
theorem mg_nil2 (a : List α) : mg key pk a [] = a := by cases a <;> rw [mg]
theorem mg_lt {x y : α} {a b : List α} (h : key x < key y) : mg key pk (x :: a) (y :: b) = x :: mg key pk a (y :: b) := by rw [mg, if_pos h]
theorem mg_gt {x y : α} {a b : List α} (h : key y < key x) : mg key pk (x :: a) (y :: b) = y :: mg key pk (x :: a) b := by rw [mg, if_neg (by omega), if_pos h]
theorem mg_eq {x y : α} {a b : List α} (h : key x = key y) : mg key pk (x :: a) (y :: b) = pk x y :: mg key pk a b := by rw [mg, if_neg (by omega), if_neg (by omega)]
theorem mg_len : ∀ a b : List α, (mg key pk a b).length ≤ a.length + b.length
  | [], b => by rw [mg_nil]; simp
  | x :: a, [] => by rw [mg_nil2]; simp
  | x :: a, y :: b => by
    rcases Int.lt_trichotomy (key x) (key y) with h | h | h
    · rw [mg_lt key pk h]; have := mg_len a (y :: b); simp at this ⊢; omega
    · rw [mg_eq key pk h]; have := mg_len a b; simp at this ⊢; omega
    · rw [mg_gt key pk h]; have := mg_len (x :: a) b; simp at this ⊢; omega
termination_by a b => a.length + b.length

def ins (w : α) : List α → List α
  | [] => [w]
  | y :: l => if key y = key w then pk y w :: l else if key w < key y then w :: y :: l else y :: ins w l

variable (hk : ∀ p q, key p = key q → key (pk p q) = key p)
include hk
theorem mg_mem : ∀ {a b : List α} {z : α}, z ∈ mg key pk a b → ∃ y, (y ∈ a ∨ y ∈ b) ∧ key y = key z
  | [], b, z, h => by rw [mg_nil] at h; exact ⟨z, .inr h, rfl⟩
  | x :: a, [], z, h => by rw [mg_nil2] at h; exact ⟨z, .inl h, rfl⟩
  | x :: a, y :: b, z, h => by
    rcases Int.lt_trichotomy (key x) (key y) with h1 | h1 | h1
    · rw [mg_lt key pk h1] at h
      rcases List.mem_cons.1 h with rfl | h
      · exact ⟨z, .inl (by simp), rfl⟩
      · obtain ⟨u, h2, h3⟩ := mg_mem h
        exact ⟨u, by rcases h2 with h2 | h2 <;> simp [h2], h3⟩
    · rw [mg_eq key pk h1] at h
      rcases List.mem_cons.1 h with rfl | h
      · exact ⟨x, .inl (by simp), (hk x y h1).symm⟩
      · obtain ⟨u, h2, h3⟩ := mg_mem h
        exact ⟨u, by rcases h2 with h2 | h2 <;> simp [h2], h3⟩
    · rw [mg_gt key pk h1] at h
      rcases List.mem_cons.1 h with rfl | h
      · exact ⟨z, .inr (by simp), rfl⟩
      · obtain ⟨u, h2, h3⟩ := mg_mem h
        exact ⟨u, by rcases h2 with h2 | h2 <;> simp [h2], h3⟩
termination_by a b => a.length + b.length
theorem mg_srt : ∀ {a b : List α}, Srt key a → Srt key b → Srt key (mg key pk a b)
  | [], b, _, h => by rw [mg_nil]; exact h
  | x :: a, [], h, _ => by rw [mg_nil2]; exact h
  | x :: a, y :: b, ha, hb => by
    have a1 := ha.hd key
    have a2 := hb.hd key
    rcases Int.lt_trichotomy (key x) (key y) with h1 | h1 | h1
    · rw [mg_lt key pk h1]
      refine List.pairwise_cons.2 ⟨fun z hz => ?_, mg_srt (ha.tl key) hb⟩
      obtain ⟨u, h2, h3⟩ := mg_mem key pk hk hz
      rw [← h3]
      rcases h2 with h2 | h2
      · exact a1 u h2
      · rcases List.mem_cons.1 h2 with rfl | h2
        · exact h1
        · have := a2 u h2; omega
    · rw [mg_eq key pk h1]
      refine List.pairwise_cons.2 ⟨fun z hz => ?_, mg_srt (ha.tl key) (hb.tl key)⟩
      obtain ⟨u, h2, h3⟩ := mg_mem key pk hk hz
      rw [← h3, hk x y h1]
      rcases h2 with h2 | h2
      · exact a1 u h2
      · have := a2 u h2; omega
    · rw [mg_gt key pk h1]
      refine List.pairwise_cons.2 ⟨fun z hz => ?_, mg_srt ha (hb.tl key)⟩
      obtain ⟨u, h2, h3⟩ := mg_mem key pk hk hz
      rw [← h3]
      rcases h2 with h2 | h2
      · rcases List.mem_cons.1 h2 with rfl | h2
        · exact h1
        · have := a1 u h2; omega
      · exact a2 u h2
termination_by a b => a.length + b.length
theorem lk_mg : ∀ {a b : List α} (_ : Srt key a) (_ : Srt key b) (z : Int), lk key (mg key pk a b) z = comb pk (lk key a z) (lk key b z)
  | [], b, _, _, z => by rw [mg_nil]; rfl
  | x :: a, [], _, _, z => by rw [mg_nil2]; exact (comb_none pk _).symm
  | x :: a, y :: b, ha, hb, z => by
    have a1 := ha.hd key
    have a2 := hb.hd key
    rcases Int.lt_trichotomy (key x) (key y) with h1 | h1 | h1
    · rw [mg_lt key pk h1, lk]
      by_cases hz : key x = z
      · rw [if_pos hz, lk, if_pos hz, lk_none key (l := y :: b) (fun u hu => by
          rcases List.mem_cons.1 hu with rfl | h2
          · omega
          · have := a2 u h2; omega)]
        rfl
      · rw [if_neg hz, lk_mg (ha.tl key) hb z, lk.eq_def key (x :: a)]
        simp only [if_neg hz]
    · rw [mg_eq key pk h1, lk, hk x y h1]
      by_cases hz : key x = z
      · rw [if_pos hz, lk, if_pos hz, lk, if_pos (by omega)]; rfl
      · rw [if_neg hz, lk_mg (ha.tl key) (hb.tl key) z, lk, if_neg hz, lk, if_neg (by omega)]
    · rw [mg_gt key pk h1, lk]
      by_cases hz : key y = z
      · rw [if_pos hz, lk_none key (l := x :: a) (fun u hu => by
          rcases List.mem_cons.1 hu with rfl | h2
          · omega
          · have := a1 u h2; omega), lk, if_pos hz]
        rfl
      · rw [if_neg hz, lk_mg ha (hb.tl key) z, lk.eq_def key (y :: b)]
        simp only [if_neg hz]
termination_by a b => a.length + b.length
theorem ins_mem {l : List α} {w z : α} (h : z ∈ ins key pk w l) : key z = key w ∨ ∃ y ∈ l, key y = key z := by
  induction l with
  | nil => simp [ins] at h; subst h; exact .inl rfl
  | cons y l ih =>
    rw [ins] at h
    split at h
    · rename_i hy
      rcases List.mem_cons.1 h with rfl | h
      · exact .inl (by rw [hk y w hy]; exact hy)
      · exact .inr ⟨z, by simp [h], rfl⟩
    · split at h
      · rcases List.mem_cons.1 h with rfl | h
        · exact .inl rfl
        · exact .inr ⟨z, h, rfl⟩
      · rcases List.mem_cons.1 h with rfl | h
        · exact .inr ⟨z, by simp, rfl⟩
        · rcases ih h with h | ⟨u, h1, h2⟩
          · exact .inl h
          · exact .inr ⟨u, by simp [h1], h2⟩
theorem ins_srt {l : List α} (w : α) (h : Srt key l) : Srt key (ins key pk w l) := by
  induction l with
  | nil => exact List.pairwise_cons.2 ⟨(fun _ h => by cases h), List.Pairwise.nil⟩
  | cons y l ih =>
    have a1 := h.hd key
    rw [ins]
    split
    · rename_i hy
      exact List.pairwise_cons.2 ⟨fun z hz => by rw [hk y w hy]; exact a1 z hz, h.tl key⟩
    · split
      · rename_i h1 h2
        refine List.pairwise_cons.2 ⟨fun z hz => ?_, h⟩
        rcases List.mem_cons.1 hz with rfl | h3
        · exact h2
        · have := a1 z h3; omega
      · rename_i h1 h2
        refine List.pairwise_cons.2 ⟨fun z hz => ?_, ih (h.tl key)⟩
        rcases ins_mem key pk hk hz with h3 | ⟨u, h3, h4⟩
        · omega
        · have := a1 u h3; omega
theorem lk_ins {l : List α} (w : α) (h : Srt key l) (z : Int) : lk key (ins key pk w l) z = comb pk (lk key l z) (if key w = z then some w else none) := by
  induction l with
  | nil => rw [ins, lk]; rfl
  | cons y l ih =>
    have a1 := h.hd key
    rw [ins]
    split
    · rename_i hy
      rw [lk, hk y w hy, lk]
      by_cases hz : key y = z
      · rw [if_pos hz, if_pos hz, if_pos (by omega)]; rfl
      · rw [if_neg hz, if_neg hz, if_neg (by omega), comb_none]
    · split
      · rename_i h1 h2
        rw [lk]
        by_cases hz : key w = z
        · rw [if_pos hz, if_pos hz, lk_none key (l := y :: l) (fun u hu => by
            rcases List.mem_cons.1 hu with rfl | h2
            · omega
            · have := a1 u h2; omega)]
          rfl
        · rw [if_neg hz, if_neg hz, comb_none]
      · rename_i h1 h2
        rw [lk, lk]
        by_cases hz : key y = z
        · rw [if_pos hz, if_pos hz, if_neg (by omega), comb_none]
        · rw [if_neg hz, if_neg hz, ih (h.tl key)]
theorem fold_srt {b a : List α} (h : Srt key a) : Srt key (b.foldl (fun l w => ins key pk w l) a) := by
  induction b generalizing a with
  | nil => exact h
  | cons y b ih => exact ih (ins_srt key pk hk y h)
theorem lk_fold {b a : List α} (h : Srt key a) (hb : Srt key b) (z : Int) : lk key (b.foldl (fun l w => ins key pk w l) a) z = comb pk (lk key a z) (lk key b z) := by
  induction b generalizing a with
  | nil => exact (comb_none pk _).symm
  | cons y b ih =>
    have a1 := hb.hd key
    rw [List.foldl_cons, ih (ins_srt key pk hk y h) (hb.tl key), lk_ins key pk hk y h, lk]
    by_cases hz : key y = z
    · rw [if_pos hz, if_pos hz, lk_none key (l := b) (fun u hu => by have := a1 u hu; omega), comb_none]
    · rw [if_neg hz, if_neg hz, comb_none]
theorem mg_fold {a b : List α} (ha : Srt key a) (hb : Srt key b) : mg key pk a b = b.foldl (fun l w => ins key pk w l) a :=
  ext key (mg_srt key pk hk ha hb) (fold_srt key pk hk ha) fun z => by rw [lk_mg key pk hk ha hb, lk_fold key pk hk ha hb]
end

/-! Summaries. -/
structure Sm where
  J : List Int
  R : List Int
  W : List Ent
  k : Int
  c : Int
  f : Int
  v : Int
  a : Int
  n : Int
def emp : Sm := ⟨[], [], [], 0, 0, 0, 0, 0, 0⟩
def kI (x : Int) : Int := x
def kW (e : Ent) : Int := e.1
def fstI (x _ : Int) : Int := x
/-- x is later than y. -/
def aft (x y : Tri) : Bool := decide (y.1 < x.1 ∨ y.1 = x.1 ∧ (y.2.1 < x.2.1 ∨ y.2.1 = x.2.1 ∧ y.2.2 < x.2.2))
def lat (x y : Ent) : Ent := if aft y.2.2 x.2.2 = true then y else x
theorem hkI : ∀ p q : Int, kI p = kI q → kI (fstI p q) = kI p := fun _ _ _ => rfl
theorem hkW : ∀ p q : Ent, kW p = kW q → kW (lat p q) = kW p := fun p q h => by unfold lat; split <;> simp_all
def rz (s : Sm) : Bool := decide (s.k = 0 ∧ s.c = 0 ∧ s.f = 0)
def tri (s : Sm) : Tri := (s.v, s.a, s.n)

def allS (l : List Int) : Bool := l.all JM.isSrv
def asc : List Int → Bool
  | [] => true
  | [_] => true
  | x :: y :: l => decide (x < y) && asc (y :: l)
def neg (t : Tri) : Bool := decide (t.1 < 0 ∨ t.2.1 < 0 ∨ t.2.2 < 0)
def errL (j r : List Int) : Int := if (allS j && allS r) = true then (if (asc j && asc r) = true then 0 else 7) else 9
def offW (e : Ent) : Bool := !JM.isSrv e.1 || decide (e.2.1 < 1) || decide (9 < e.2.1) || neg e.2.2
def errW : Int → List Ent → Int
  | _, [] => 0
  | p, e :: l => if offW e = true then 9 else if e.1 ≤ p then 7 else errW e.1 l
def errZ (s : Sm) : Int :=
  if rz s = false ∧ JM.errR s.k s.c s.f ≠ 0 then JM.errR s.k s.c s.f
  else if neg (tri s) = true ∨ (rz s = true ∧ tri s ≠ (0, 0, 0)) then 9 else 0
def or2 (x y : Int) : Int := if x = 0 then y else x
def errS (s : Sm) : Int := or2 (errL s.J s.R) (or2 (errW 0 s.W) (errZ s))
def eqS (s t : Sm) : Bool := decide (s.J = t.J) && decide (s.R = t.R) && decide (s.W = t.W) && decide (s.k = t.k ∧ s.c = t.c ∧ s.f = t.f) && decide (tri s = tri t)
theorem eqS_self (s : Sm) : eqS s s = true := by simp [eqS]
theorem eqS_iff {s t : Sm} : eqS s t = true ↔ s = t := by
  obtain ⟨j, r, w, k, c, f, v, a, n⟩ := s
  obtain ⟨j', r', w', k', c', f', v', a', n'⟩ := t
  simp [eqS, tri]
  constructor
  · rintro ⟨⟨⟨⟨rfl, rfl⟩, rfl⟩, rfl, rfl, rfl⟩, rfl, rfl, rfl⟩; simp
  · rintro ⟨rfl, rfl, rfl, rfl, rfl, rfl, rfl, rfl, rfl⟩; simp

/-- Initial, Join, the summary of a proposal, the view. -/
def ini (ms : List Mem) (k c f : Int) : Sm := ⟨ms.map (·.1), [], ms.map fun m => (m.1, m.2, 0, 0, 0), k, c, f, 0, 0, 0⟩
def useB (a b : Sm) : Bool := rz a || (!rz b && aft (tri b) (tri a))
def useR (a b : Sm) : Bool := !rz b && (rz a || aft (tri b) (tri a))
def joinU (u : Bool) (a b : Sm) : Sm :=
  ⟨mg kI fstI a.J b.J, mg kI fstI a.R b.R, mg kW lat a.W b.W, if u then b.k else a.k, if u then b.c else a.c, if u then b.f else a.f, if u then b.v else a.v, if u then b.a else a.a, if u then b.n else a.n⟩
def join (a b : Sm) : Sm := joinU (useB a b) a b
def insI (x : Int) (l : List Int) : List Int := ins kI fstI x l
def insW (x : Ent) (l : List Ent) : List Ent := ins kW lat x l
/-- The reference's. -/
def joinR (a b : Sm) : Sm :=
  let u := useR a b
  ⟨b.J.foldl (fun l w => insI w l) a.J, b.R.foldl (fun l w => insI w l) a.R, b.W.foldl (fun l w => insW w l) a.W, if u then b.k else a.k, if u then b.c else a.c, if u then b.f else a.f, if u then b.v else a.v, if u then b.a else a.a, if u then b.n else a.n⟩
def stp (ad nu : Int) (s : Sm) : Chg → Sm
  | (k, sv, wt, vn, x, y, z) =>
    if k = 1 then { s with J := insI sv s.J, W := insW (sv, wt, 0, ad, nu) s.W }
    else if k = 2 then { s with R := insI sv s.R }
    else if k = 3 then { s with W := insW (sv, wt, vn, ad, nu) s.W }
    else if k = 4 then { s with k := x, c := y, f := z, v := vn, a := ad, n := nu }
    else s
def ofP (ad nu : Int) (cs : List Chg) : Sm := cs.foldl (stp ad nu) emp
def wtOf (w : List Ent) (x : Int) : Int := match lk kW w x with
  | some e => e.2.1
  | none => 1
def mems (s : Sm) : List Mem := (s.J.filter fun x => !s.R.contains x).map fun x => (x, wtOf s.W x)
def vk (s : Sm) : Int := if rz s then 1 else s.k

/-- A valid summary. -/
structure OkS (s : Sm) : Prop where
  j : Srt kI s.J
  r : Srt kI s.R
  w : Srt kW s.W
  js : ∀ x ∈ s.J, 1 ≤ x ∧ x ≤ 12
  rs : ∀ x ∈ s.R, 1 ≤ x ∧ x ≤ 12
  ws : ∀ e ∈ s.W, (1 ≤ e.1 ∧ e.1 ≤ 12) ∧ 1 ≤ e.2.1 ∧ e.2.1 ≤ 9 ∧ 0 ≤ e.2.2.1 ∧ 0 ≤ e.2.2.2.1 ∧ 0 ≤ e.2.2.2.2
  z : rz s = true ∨ JM.errR s.k s.c s.f = 0
  t : 0 ≤ s.v ∧ 0 ≤ s.a ∧ 0 ≤ s.n
  t0 : rz s = true → s.v = 0 ∧ s.a = 0 ∧ s.n = 0
theorem asc_iff {l : List Int} : asc l = true ↔ Srt kI l := by
  induction l with
  | nil => simp [asc, Srt]
  | cons x l ih =>
    cases l with
    | nil => simp [asc, Srt]
    | cons y l =>
      rw [asc, Bool.and_eq_true, ih, decide_eq_true_iff]
      constructor
      · rintro ⟨h1, h2⟩
        refine List.pairwise_cons.2 ⟨fun z hz => ?_, h2⟩
        rcases List.mem_cons.1 hz with rfl | h3
        · exact h1
        · have := h2.hd kI z h3; unfold kI at *; omega
      · intro h; exact ⟨h.hd kI y (by simp), h.tl kI⟩
theorem allS_iff {l : List Int} : allS l = true ↔ ∀ x ∈ l, 1 ≤ x ∧ x ≤ 12 := by
  unfold allS
  rw [List.all_eq_true]
  exact ⟨fun h x hx => JM.isSrv_iff.1 (h x hx), fun h x hx => JM.isSrv_iff.2 (h x hx)⟩
def OkE (e : Ent) : Prop := (1 ≤ e.1 ∧ e.1 ≤ 12) ∧ 1 ≤ e.2.1 ∧ e.2.1 ≤ 9 ∧ 0 ≤ e.2.2.1 ∧ 0 ≤ e.2.2.2.1 ∧ 0 ≤ e.2.2.2.2
theorem offW_iff {e : Ent} : offW e = false ↔ OkE e := by
  have h := JM.isSrv_iff (x := e.1)
  unfold offW neg OkE
  cases hs : JM.isSrv e.1
  · rw [hs] at h; simp at h ⊢; omega
  · rw [hs] at h; simp at h ⊢; omega
theorem errW_iff {p : Int} {l : List Ent} : errW p l = 0 ↔ Srt kW l ∧ (∀ e ∈ l, p < e.1) ∧ ∀ e ∈ l, OkE e := by
  induction l generalizing p with
  | nil => simp [errW, Srt]
  | cons e l ih =>
    rw [errW]
    by_cases h1 : offW e = true
    · rw [if_pos h1]
      constructor
      · intro h; cases h
      · intro h; have := offW_iff.2 (h.2.2 e (by simp)); rw [this] at h1; cases h1
    · rw [if_neg h1]
      have h1' := offW_iff.1 (by simpa using h1)
      by_cases h2 : e.1 ≤ p
      · rw [if_pos h2]
        constructor
        · intro h; cases h
        · intro h; have := h.2.1 e (by simp); omega
      · rw [if_neg h2, ih]
        constructor
        · rintro ⟨h3, h4, h5⟩
          refine ⟨List.pairwise_cons.2 ⟨fun y hy => h4 y hy, h3⟩, fun y hy => ?_, fun y hy => ?_⟩
          · rcases List.mem_cons.1 hy with rfl | h6
            · omega
            · have := h4 y h6; omega
          · rcases List.mem_cons.1 hy with rfl | h6
            · exact h1'
            · exact h5 y h6
        · rintro ⟨h3, h4, h5⟩
          exact ⟨h3.tl kW, fun y hy => h3.hd kW y hy, fun y hy => h5 y (by simp [hy])⟩
theorem errS_iff {s : Sm} : errS s = 0 ↔ OkS s := by
  have hL : errL s.J s.R = 0 ↔ (Srt kI s.J ∧ Srt kI s.R) ∧ (∀ x ∈ s.J, 1 ≤ x ∧ x ≤ 12) ∧ ∀ x ∈ s.R, 1 ≤ x ∧ x ≤ 12 := by
    unfold errL
    rw [← allS_iff, ← allS_iff, ← asc_iff, ← asc_iff]
    cases allS s.J <;> cases allS s.R <;> cases asc s.J <;> cases asc s.R <;> simp
  have hW : errW 0 s.W = 0 ↔ Srt kW s.W ∧ ∀ e ∈ s.W, OkE e := by
    rw [errW_iff]
    exact ⟨fun h => ⟨h.1, h.2.2⟩, fun h => ⟨h.1, fun e he => by have := (h.2 e he).1; omega, h.2⟩⟩
  have hZ : errZ s = 0 ↔ (rz s = true ∨ JM.errR s.k s.c s.f = 0) ∧ (0 ≤ s.v ∧ 0 ≤ s.a ∧ 0 ≤ s.n) ∧ (rz s = true → s.v = 0 ∧ s.a = 0 ∧ s.n = 0) := by
    unfold errZ neg tri
    cases rz s
    · by_cases h : JM.errR s.k s.c s.f = 0
      · rw [if_neg (by simp [h])]
        simp [h]
      · rw [if_pos ⟨rfl, h⟩]; simp [h]
    · rw [if_neg (by simp)]
      simp
  have hO : errS s = 0 ↔ errL s.J s.R = 0 ∧ errW 0 s.W = 0 ∧ errZ s = 0 := by
    unfold errS or2
    by_cases h1 : errL s.J s.R = 0
    · by_cases h2 : errW 0 s.W = 0 <;> simp [h1, h2]
    · simp [h1]
  rw [hO, hL, hW, hZ]
  constructor
  · rintro ⟨⟨⟨a, b⟩, c, d⟩, ⟨e, f⟩, g, h, i⟩; exact ⟨a, b, e, c, d, f, g, h, i⟩
  · rintro ⟨a, b, c, d, e, f, g, h, i⟩; exact ⟨⟨⟨a, b⟩, d, e⟩, ⟨c, f⟩, g, h, i⟩

/-- The two joins are one on valid summaries. -/
theorem joinR_eq {a b : Sm} (ha : OkS a) (hb : OkS b) : joinR a b = join a b := by
  have e1 : useR a b = useB a b ∨ (rz a = true ∧ rz b = true) := by
    unfold useR useB
    cases rz a <;> cases rz b <;> simp
  unfold joinR join joinU insI insW
  rw [mg_fold kI fstI hkI ha.j hb.j, mg_fold kI fstI hkI ha.r hb.r, mg_fold kW lat hkW ha.w hb.w]
  rcases e1 with e1 | ⟨z1, z2⟩
  · simp only [e1]
  · have t1 := ha.t0 z1
    have t2 := hb.t0 z2
    have u1 : useR a b = false := by simp [useR, z2]
    have u2 : useB a b = true := by simp [useB, z1]
    have w1 : a.k = 0 ∧ a.c = 0 ∧ a.f = 0 := by simpa [rz] using z1
    have w2 : b.k = 0 ∧ b.c = 0 ∧ b.f = 0 := by simpa [rz] using z2
    simp [u1, u2, t1, t2, w1, w2]
theorem okS_join {a b : Sm} (ha : OkS a) (hb : OkS b) : OkS (join a b) := by
  have mI : ∀ {l m : List Int}, (∀ x ∈ l, 1 ≤ x ∧ x ≤ 12) → (∀ x ∈ m, 1 ≤ x ∧ x ≤ 12) → ∀ x ∈ mg kI fstI l m, 1 ≤ x ∧ x ≤ 12 := by
    intro l m h1 h2 x hx
    obtain ⟨y, h3, h4⟩ := mg_mem kI fstI hkI hx
    have h4' : y = x := h4
    subst h4'
    rcases h3 with h3 | h3
    · exact h1 y h3
    · exact h2 y h3
  have mW : ∀ e ∈ mg kW lat a.W b.W, OkE e := by
    intro e he
    have hs := mg_srt kW lat hkW ha.w hb.w
    have h1 := lk_mem kW hs he
    rw [lk_mg kW lat hkW ha.w hb.w] at h1
    cases h2 : lk kW a.W (kW e) with
    | none =>
      rw [h2] at h1
      exact hb.ws e (lk_some kW h1).1
    | some p =>
      have p1 := ha.ws p (lk_some kW h2).1
      rw [h2] at h1
      cases h3 : lk kW b.W (kW e) with
      | none => rw [h3] at h1; cases h1; exact p1
      | some q =>
        have q1 := hb.ws q (lk_some kW h3).1
        rw [h3] at h1
        simp only [comb, Option.some.injEq] at h1
        rw [← h1]
        unfold lat
        split
        · exact q1
        · exact p1
  refine ⟨mg_srt kI fstI hkI ha.j hb.j, mg_srt kI fstI hkI ha.r hb.r, mg_srt kW lat hkW ha.w hb.w, mI ha.js hb.js, mI ha.rs hb.rs, mW, ?_, ?_, ?_⟩
  · unfold join joinU
    cases useB a b
    · have h1 := ha.z
      unfold rz at h1 ⊢
      exact h1
    · have h1 := hb.z
      unfold rz at h1 ⊢
      exact h1
  · unfold join joinU
    cases useB a b
    · exact ha.t
    · exact hb.t
  · unfold join joinU
    cases useB a b
    · have h1 := ha.t0
      unfold rz at h1 ⊢
      exact h1
    · have h1 := hb.t0
      unfold rz at h1 ⊢
      exact h1

end Go.Proofs.YtkaafbdhgekeeaaGreat.MM
