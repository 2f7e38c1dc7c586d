/-
  The mathematics of summaries: sorted lists by key, their lookups, the union of two, an insertion; validity; the join, the summary of a proposal, the view. No program. No conditions beyond those that each lemma names.
  The mathematics of Of: the summary of a proposal by sorting its entries and leaving out all but the first of each server is the summary by insertions. No program. Condition: the proposal is valid.
  The mathematics of joins of many summaries: a join is determined by the set of the summaries that it joins, where equal triples mean equal entries. No program. No conditions beyond those that each lemma names.
-/
import Derived.Test.YthfpafnljnnndaaGreatSKC
namespace Go.Proofs.YthfpafnljnnndaaGreat.MM
open JM (Chg)

abbrev Mem := Int × Int
abbrev Ent := Int × Int × Int × Int × Int
abbrev Tri := Int × Int × Int

/-! Members. -/
def off (m : Mem) : Bool := decide (m.1 < 1 ∨ 12 < m.1 ∨ m.2 < 1 ∨ 9 < m.2)
def errM : Int → List Mem → Int
  | _, [] => 0
  | p, m :: v => if off m = true then 9 else if m.1 ≤ p then 7 else errM m.1 v
def errV (k c f : Int) (ms : List Mem) : Int := if JM.errR k c f = 0 then errM 0 ms else JM.errR k c f
/-- What ValidateGenesis says. -/
def errG (k c f : Int) (ms : List Mem) : Int := if errV k c f ms = 0 then (if ms = [] then 2 else 0) else errV k c f ms
def Val : Int → List Mem → Prop
  | _, [] => True
  | p, m :: v => p < m.1 ∧ 1 ≤ m.1 ∧ m.1 ≤ 12 ∧ 1 ≤ m.2 ∧ m.2 ≤ 9 ∧ Val m.1 v
theorem errM_val {p : Int} {ms : List Mem} : errM p ms = 0 ↔ Val p ms := by
  induction ms generalizing p with
  | nil => simp [errM, Val]
  | cons m v ih =>
    unfold errM Val off
    by_cases h1 : m.1 < 1 ∨ 12 < m.1 ∨ m.2 < 1 ∨ 9 < m.2
    · rw [if_pos (by simpa using h1)]
      constructor
      · intro h; cases h
      · intro h; omega
    · rw [if_neg (by simpa using h1)]
      by_cases h2 : m.1 ≤ p
      · rw [if_pos h2]
        constructor
        · intro h; cases h
        · intro h; omega
      · rw [if_neg h2, ih]
        constructor
        · intro h; exact ⟨by omega, by omega, by omega, by omega, by omega, h⟩
        · intro h; exact h.2.2.2.2.2

/-! Lists that ascend by a key. -/
section
variable {α : Type} (key : α → Int)
def Srt (l : List α) : Prop := l.Pairwise fun x y => key x < key y
def lk : List α → Int → Option α
  | [], _ => none
  | y :: l, x => if key y = x then some y else lk l x
def comb (pk : α → α → α) : Option α → Option α → Option α
  | some p, some q => some (pk p q)
  | some p, none => some p
  | none, o => o
theorem comb_none (pk : α → α → α) (o : Option α) : comb pk o none = o := by cases o <;> rfl
theorem Srt.tl {x : α} {l : List α} (h : Srt key (x :: l)) : Srt key l := (List.pairwise_cons.1 h).2
theorem Srt.hd {x : α} {l : List α} (h : Srt key (x :: l)) : ∀ y ∈ l, key x < key y := (List.pairwise_cons.1 h).1
theorem lk_none {l : List α} {x : Int} (h : ∀ y ∈ l, key y ≠ x) : lk key l x = none := by
  induction l with
  | nil => rfl
  | cons y l ih => rw [lk, if_neg (h y (by simp)), ih (fun z hz => h z (by simp [hz]))]
theorem lk_some {l : List α} {x : Int} {p : α} (h : lk key l x = some p) : p ∈ l ∧ key p = x := by
  induction l with
  | nil => cases h
  | cons y l ih =>
    rw [lk] at h
    split at h
    · rename_i hy; cases h; exact ⟨by simp, hy⟩
    · have := ih h; exact ⟨by simp [this.1], this.2⟩
theorem lk_mem {l : List α} (h : Srt key l) {p : α} (hp : p ∈ l) : lk key l (key p) = some p := by
  induction l with
  | nil => cases hp
  | cons y l ih =>
    rcases List.mem_cons.1 hp with rfl | h1
    · rw [lk, if_pos rfl]
    · have := h.hd key p h1
      rw [lk, if_neg (by omega), ih (h.tl key) h1]
theorem ext : ∀ {l l' : List α}, Srt key l → Srt key l' → (∀ x, lk key l x = lk key l' x) → l = l'
  | [], [], _, _, _ => rfl
  | [], y :: l', _, _, h => by have := h (key y); simp [lk] at this
  | x :: l, [], _, _, h => by have := h (key x); simp [lk] at this
  | x :: l, y :: l', h1, h2, h => by
    have a1 := h1.hd key
    have a2 := h2.hd key
    have hxy : x = y := by
      have e1 := h (key x)
      have e2 := h (key y)
      rw [lk, if_pos rfl, lk] at e1
      rw [lk, lk, if_pos rfl] at e2
      by_cases hk : key y = key x
      · rw [if_pos hk] at e1; exact Option.some.inj e1
      · rw [if_neg hk] at e1
        rw [if_neg (fun e => hk e.symm)] at e2
        have b1 := lk_some key e1.symm
        have b2 := lk_some key e2
        have := a2 x b1.1
        have := a1 y b2.1
        omega
    subst hxy
    congr 1
    refine ext (h1.tl key) (h2.tl key) fun z => ?_
    have e := h z
    rw [lk, lk] at e
    by_cases hz : key x = z
    · rw [lk_none key (fun y hy => by have := a1 y hy; omega), lk_none key (fun y hy => by have := a2 y hy; omega)]
    · rw [if_neg hz, if_neg hz] at e; exact e

variable (pk : α → α → α)
/-- The union of two. -/
def mg : List α → List α → List α
  | [], b => b
  | x :: a, [] => x :: a
  | x :: a, y :: b => if key x < key y then x :: mg a (y :: b) else if key y < key x then y :: mg (x :: a) b else pk x y :: mg a b
termination_by a b => a.length + b.length
theorem mg_nil (b : List α) : mg key pk [] b = b := by rw [mg]
theorem mg_nil2 (a : List α) : mg key pk a [] = a := by cases a <;> rw [mg]
theorem mg_lt {x y : α} {a b : List α} (h : key x < key y) : mg key pk (x :: a) (y :: b) = x :: mg key pk a (y :: b) := by rw [mg, if_pos h]
theorem mg_gt {x y : α} {a b : List α} (h : key y < key x) : mg key pk (x :: a) (y :: b) = y :: mg key pk (x :: a) b := by rw [mg, if_neg (by omega), if_pos h]
theorem mg_eq {x y : α} {a b : List α} (h : key x = key y) : mg key pk (x :: a) (y :: b) = pk x y :: mg key pk a b := by rw [mg, if_neg (by omega), if_neg (by omega)]
def ins (w : α) : List α → List α
  | [] => [w]
  | y :: l => if key y = key w then pk y w :: l else if key w < key y then w :: y :: l else y :: ins w l

variable (hk : ∀ p q, key p = key q → key (pk p q) = key p)
include hk
theorem mg_mem : ∀ {a b : List α} {z : α}, z ∈ mg key pk a b → ∃ y, (y ∈ a ∨ y ∈ b) ∧ key y = key z
  | [], b, z, h => by rw [mg_nil] at h; exact ⟨z, .inr h, rfl⟩
  | x :: a, [], z, h => by rw [mg_nil2] at h; exact ⟨z, .inl h, rfl⟩
  | x :: a, y :: b, z, h => by
    rcases Int.lt_trichotomy (key x) (key y) with h1 | h1 | h1
    · rw [mg_lt key pk h1] at h
      rcases List.mem_cons.1 h with rfl | h
      · exact ⟨z, .inl (by simp), rfl⟩
      · obtain ⟨u, h2, h3⟩ := mg_mem h
        exact ⟨u, by rcases h2 with h2 | h2 <;> simp [h2], h3⟩
    · rw [mg_eq key pk h1] at h
      rcases List.mem_cons.1 h with rfl | h
      · exact ⟨x, .inl (by simp), (hk x y h1).symm⟩
      · obtain ⟨u, h2, h3⟩ := mg_mem h
        exact ⟨u, by rcases h2 with h2 | h2 <;> simp [h2], h3⟩
    · rw [mg_gt key pk h1] at h
      rcases List.mem_cons.1 h with rfl | h
      · exact ⟨z, .inr (by simp), rfl⟩
      · obtain ⟨u, h2, h3⟩ := mg_mem h
        exact ⟨u, by rcases h2 with h2 | h2 <;> simp [h2], h3⟩
termination_by a b => a.length + b.length
theorem mg_srt : ∀ {a b : List α}, Srt key a → Srt key b → Srt key (mg key pk a b)
  | [], b, _, h => by rw [mg_nil]; exact h
  | x :: a, [], h, _ => by rw [mg_nil2]; exact h
  | x :: a, y :: b, ha, hb => by
    have a1 := ha.hd key
    have a2 := hb.hd key
    rcases Int.lt_trichotomy (key x) (key y) with h1 | h1 | h1
    · rw [mg_lt key pk h1]
      refine List.pairwise_cons.2 ⟨fun z hz => ?_, mg_srt (ha.tl key) hb⟩
      obtain ⟨u, h2, h3⟩ := mg_mem key pk hk hz
      rw [← h3]
      rcases h2 with h2 | h2
      · exact a1 u h2
      · rcases List.mem_cons.1 h2 with rfl | h2
        · exact h1
        · have := a2 u h2; omega
    · rw [mg_eq key pk h1]
      refine List.pairwise_cons.2 ⟨fun z hz => ?_, mg_srt (ha.tl key) (hb.tl key)⟩
      obtain ⟨u, h2, h3⟩ := mg_mem key pk hk hz
      rw [← h3, hk x y h1]
      rcases h2 with h2 | h2
      · exact a1 u h2
      · have := a2 u h2; omega
    · rw [mg_gt key pk h1]
      refine List.pairwise_cons.2 ⟨fun z hz => ?_, mg_srt ha (hb.tl key)⟩
      obtain ⟨u, h2, h3⟩ := mg_mem key pk hk hz
      rw [← h3]
      rcases h2 with h2 | h2
      · rcases List.mem_cons.1 h2 with rfl | h2
        · exact h1
        · have := a1 u h2; omega
      · exact a2 u h2
termination_by a b => a.length + b.length
theorem lk_mg : ∀ {a b : List α} (_ : Srt key a) (_ : Srt key b) (z : Int), lk key (mg key pk a b) z = comb pk (lk key a z) (lk key b z)
  | [], b, _, _, z => by rw [mg_nil]; rfl
  | x :: a, [], _, _, z => by rw [mg_nil2]; exact (comb_none pk _).symm
  | x :: a, y :: b, ha, hb, z => by
    have a1 := ha.hd key
    have a2 := hb.hd key
    rcases Int.lt_trichotomy (key x) (key y) with h1 | h1 | h1
    · rw [mg_lt key pk h1, lk]
      by_cases hz : key x = z
      · rw [if_pos hz, lk, if_pos hz, lk_none key (l := y :: b) (fun u hu => by
          rcases List.mem_cons.1 hu with rfl | h2
          · omega
          · have := a2 u h2; omega)]
        rfl
      · rw [if_neg hz, lk_mg (ha.tl key) hb z, lk.eq_def key (x :: a)]
        simp only [if_neg hz]
    · rw [mg_eq key pk h1, lk, hk x y h1]
      by_cases hz : key x = z
      · rw [if_pos hz, lk, if_pos hz, lk, if_pos (by omega)]; rfl
      · rw [if_neg hz, lk_mg (ha.tl key) (hb.tl key) z, lk, if_neg hz, lk, if_neg (by omega)]
    · rw [mg_gt key pk h1, lk]
      by_cases hz : key y = z
      · rw [if_pos hz, lk_none key (l := x :: a) (fun u hu => by
          rcases List.mem_cons.1 hu with rfl | h2
          · omega
          · have := a1 u h2; omega), lk, if_pos hz]
        rfl
      · rw [if_neg hz, lk_mg ha (hb.tl key) z, lk.eq_def key (y :: b)]
        simp only [if_neg hz]
termination_by a b => a.length + b.length
theorem ins_mem {l : List α} {w z : α} (h : z ∈ ins key pk w l) : key z = key w ∨ ∃ y ∈ l, key y = key z := by
  induction l with
  | nil => simp [ins] at h; subst h; exact .inl rfl
  | cons y l ih =>
    rw [ins] at h
    split at h
    · rename_i hy
      rcases List.mem_cons.1 h with rfl | h
      · exact .inl (by rw [hk y w hy]; exact hy)
      · exact .inr ⟨z, by simp [h], rfl⟩
    · split at h
      · rcases List.mem_cons.1 h with rfl | h
        · exact .inl rfl
        · exact .inr ⟨z, h, rfl⟩
      · rcases List.mem_cons.1 h with rfl | h
        · exact .inr ⟨z, by simp, rfl⟩
        · rcases ih h with h | ⟨u, h1, h2⟩
          · exact .inl h
          · exact .inr ⟨u, by simp [h1], h2⟩
theorem ins_srt {l : List α} (w : α) (h : Srt key l) : Srt key (ins key pk w l) := by
  induction l with
  | nil => exact List.pairwise_cons.2 ⟨(fun _ h => by cases h), List.Pairwise.nil⟩
  | cons y l ih =>
    have a1 := h.hd key
    rw [ins]
    split
    · rename_i hy
      exact List.pairwise_cons.2 ⟨fun z hz => by rw [hk y w hy]; exact a1 z hz, h.tl key⟩
    · split
      · rename_i h1 h2
        refine List.pairwise_cons.2 ⟨fun z hz => ?_, h⟩
        rcases List.mem_cons.1 hz with rfl | h3
        · exact h2
        · have := a1 z h3; omega
      · rename_i h1 h2
        refine List.pairwise_cons.2 ⟨fun z hz => ?_, ih (h.tl key)⟩
        rcases ins_mem key pk hk hz with h3 | ⟨u, h3, h4⟩
        · omega
        · have := a1 u h3; omega
theorem lk_ins {l : List α} (w : α) (h : Srt key l) (z : Int) : lk key (ins key pk w l) z = comb pk (lk key l z) (if key w = z then some w else none) := by
  induction l with
  | nil => rw [ins, lk]; rfl
  | cons y l ih =>
    have a1 := h.hd key
    rw [ins]
    split
    · rename_i hy
      rw [lk, hk y w hy, lk]
      by_cases hz : key y = z
      · rw [if_pos hz, if_pos hz, if_pos (by omega)]; rfl
      · rw [if_neg hz, if_neg hz, if_neg (by omega), comb_none]
    · split
      · rename_i h1 h2
        rw [lk]
        by_cases hz : key w = z
        · rw [if_pos hz, if_pos hz, lk_none key (l := y :: l) (fun u hu => by
            rcases List.mem_cons.1 hu with rfl | h2
            · omega
            · have := a1 u h2; omega)]
          rfl
        · rw [if_neg hz, if_neg hz, comb_none]
      · rename_i h1 h2
        rw [lk, lk]
        by_cases hz : key y = z
        · rw [if_pos hz, if_pos hz, if_neg (by omega), comb_none]
        · rw [if_neg hz, if_neg hz, ih (h.tl key)]
theorem fold_srt {b a : List α} (h : Srt key a) : Srt key (b.foldl (fun l w => ins key pk w l) a) := by
  induction b generalizing a with
  | nil => exact h
  | cons y b ih => exact ih (ins_srt key pk hk y h)
theorem lk_fold {b a : List α} (h : Srt key a) (hb : Srt key b) (z : Int) : lk key (b.foldl (fun l w => ins key pk w l) a) z = comb pk (lk key a z) (lk key b z) := by
  induction b generalizing a with
  | nil => exact (comb_none pk _).symm
  | cons y b ih =>
    have a1 := hb.hd key
    rw [List.foldl_cons, ih (ins_srt key pk hk y h) (hb.tl key), lk_ins key pk hk y h, lk]
    by_cases hz : key y = z
    · rw [if_pos hz, if_pos hz, lk_none key (l := b) (fun u hu => by have := a1 u hu; omega), comb_none]
    · rw [if_neg hz, if_neg hz, comb_none]
theorem mg_fold {a b : List α} (ha : Srt key a) (hb : Srt key b) : mg key pk a b = b.foldl (fun l w => ins key pk w l) a :=
  ext key (mg_srt key pk hk ha hb) (fold_srt key pk hk ha) fun z => by rw [lk_mg key pk hk ha hb, lk_fold key pk hk ha hb]
end

/-! Summaries. -/
structure Sm where
  J : List Int
  R : List Int
  W : List Ent
  k : Int
  c : Int
  f : Int
  v : Int
  a : Int
  n : Int
def emp : Sm := ⟨[], [], [], 0, 0, 0, 0, 0, 0⟩
def kI (x : Int) : Int := x
def kW (e : Ent) : Int := e.1
def fstI (x _ : Int) : Int := x
/-- x is later than y. -/
def aft (x y : Tri) : Bool := decide (y.1 < x.1 ∨ y.1 = x.1 ∧ (y.2.1 < x.2.1 ∨ y.2.1 = x.2.1 ∧ y.2.2 < x.2.2))
def lat (x y : Ent) : Ent := if aft y.2.2 x.2.2 = true then y else x
theorem hkI : ∀ p q : Int, kI p = kI q → kI (fstI p q) = kI p := fun _ _ _ => rfl
theorem hkW : ∀ p q : Ent, kW p = kW q → kW (lat p q) = kW p := fun p q h => by unfold lat; split <;> simp_all
def rz (s : Sm) : Bool := decide (s.k = 0 ∧ s.c = 0 ∧ s.f = 0)
def tri (s : Sm) : Tri := (s.v, s.a, s.n)

def allS (l : List Int) : Bool := l.all JM.isSrv
def asc : List Int → Bool
  | [] => true
  | [_] => true
  | x :: y :: l => decide (x < y) && asc (y :: l)
def neg (t : Tri) : Bool := decide (t.1 < 0 ∨ t.2.1 < 0 ∨ t.2.2 < 0)
def errL (j r : List Int) : Int := if (allS j && allS r) = true then (if (asc j && asc r) = true then 0 else 7) else 9
def offW (e : Ent) : Bool := !JM.isSrv e.1 || decide (e.2.1 < 1) || decide (9 < e.2.1) || neg e.2.2
def errW : Int → List Ent → Int
  | _, [] => 0
  | p, e :: l => if offW e = true then 9 else if e.1 ≤ p then 7 else errW e.1 l
def errZ (s : Sm) : Int :=
  if rz s = false ∧ JM.errR s.k s.c s.f ≠ 0 then JM.errR s.k s.c s.f
  else if neg (tri s) = true ∨ (rz s = true ∧ tri s ≠ (0, 0, 0)) then 9 else 0
def or2 (x y : Int) : Int := if x = 0 then y else x
def errS (s : Sm) : Int := or2 (errL s.J s.R) (or2 (errW 0 s.W) (errZ s))
def eqS (s t : Sm) : Bool := decide (s.J = t.J) && decide (s.R = t.R) && decide (s.W = t.W) && decide (s.k = t.k ∧ s.c = t.c ∧ s.f = t.f) && decide (tri s = tri t)
/-- Initial, Join, the summary of a proposal, the view. -/
def ini (ms : List Mem) (k c f : Int) : Sm := ⟨ms.map (·.1), [], ms.map fun m => (m.1, m.2, 0, 0, 0), k, c, f, 0, 0, 0⟩
def useB (a b : Sm) : Bool := rz a || (!rz b && aft (tri b) (tri a))
def useR (a b : Sm) : Bool := !rz b && (rz a || aft (tri b) (tri a))
def joinU (u : Bool) (a b : Sm) : Sm :=
  ⟨mg kI fstI a.J b.J, mg kI fstI a.R b.R, mg kW lat a.W b.W, if u then b.k else a.k, if u then b.c else a.c, if u then b.f else a.f, if u then b.v else a.v, if u then b.a else a.a, if u then b.n else a.n⟩
def join (a b : Sm) : Sm := joinU (useB a b) a b
def insI (x : Int) (l : List Int) : List Int := ins kI fstI x l
def insW (x : Ent) (l : List Ent) : List Ent := ins kW lat x l
/-- The reference's. -/
def joinR (a b : Sm) : Sm :=
  let u := useR a b
  ⟨b.J.foldl (fun l w => insI w l) a.J, b.R.foldl (fun l w => insI w l) a.R, b.W.foldl (fun l w => insW w l) a.W, if u then b.k else a.k, if u then b.c else a.c, if u then b.f else a.f, if u then b.v else a.v, if u then b.a else a.a, if u then b.n else a.n⟩
def stp (ad nu : Int) (s : Sm) : Chg → Sm
  | (k, sv, wt, vn, x, y, z) =>
    if k = 1 then { s with J := insI sv s.J, W := insW (sv, wt, 0, ad, nu) s.W }
    else if k = 2 then { s with R := insI sv s.R }
    else if k = 3 then { s with W := insW (sv, wt, vn, ad, nu) s.W }
    else if k = 4 then { s with k := x, c := y, f := z, v := vn, a := ad, n := nu }
    else s
def ofP (ad nu : Int) (cs : List Chg) : Sm := cs.foldl (stp ad nu) emp
def wtOf (w : List Ent) (x : Int) : Int := match lk kW w x with
  | some e => e.2.1
  | none => 1
def mems (s : Sm) : List Mem := (s.J.filter fun x => !s.R.contains x).map fun x => (x, wtOf s.W x)
def vk (s : Sm) : Int := if rz s then 1 else s.k

/-- A valid summary. -/
structure OkS (s : Sm) : Prop where
  j : Srt kI s.J
  r : Srt kI s.R
  w : Srt kW s.W
  js : ∀ x ∈ s.J, 1 ≤ x ∧ x ≤ 12
  rs : ∀ x ∈ s.R, 1 ≤ x ∧ x ≤ 12
  ws : ∀ e ∈ s.W, (1 ≤ e.1 ∧ e.1 ≤ 12) ∧ 1 ≤ e.2.1 ∧ e.2.1 ≤ 9 ∧ 0 ≤ e.2.2.1 ∧ 0 ≤ e.2.2.2.1 ∧ 0 ≤ e.2.2.2.2
  z : rz s = true ∨ JM.errR s.k s.c s.f = 0
  t : 0 ≤ s.v ∧ 0 ≤ s.a ∧ 0 ≤ s.n
  t0 : rz s = true → s.v = 0 ∧ s.a = 0 ∧ s.n = 0
theorem asc_iff {l : List Int} : asc l = true ↔ Srt kI l := by
  induction l with
  | nil => simp [asc, Srt]
  | cons x l ih =>
    cases l with
    | nil => simp [asc, Srt]
    | cons y l =>
      rw [asc, Bool.and_eq_true, ih, decide_eq_true_iff]
      constructor
      · rintro ⟨h1, h2⟩
        refine List.pairwise_cons.2 ⟨fun z hz => ?_, h2⟩
        rcases List.mem_cons.1 hz with rfl | h3
        · exact h1
        · have := h2.hd kI z h3; unfold kI at *; omega
      · intro h; exact ⟨h.hd kI y (by simp), h.tl kI⟩
def OkE (e : Ent) : Prop := (1 ≤ e.1 ∧ e.1 ≤ 12) ∧ 1 ≤ e.2.1 ∧ e.2.1 ≤ 9 ∧ 0 ≤ e.2.2.1 ∧ 0 ≤ e.2.2.2.1 ∧ 0 ≤ e.2.2.2.2
/-- The two joins are one on valid summaries. -/
theorem joinR_eq {a b : Sm} (ha : OkS a) (hb : OkS b) : joinR a b = join a b := by
  have e1 : useR a b = useB a b ∨ (rz a = true ∧ rz b = true) := by
    unfold useR useB
    cases rz a <;> cases rz b <;> simp
  unfold joinR join joinU insI insW
  rw [mg_fold kI fstI hkI ha.j hb.j, mg_fold kI fstI hkI ha.r hb.r, mg_fold kW lat hkW ha.w hb.w]
  rcases e1 with e1 | ⟨z1, z2⟩
  · simp only [e1]
  · have t1 := ha.t0 z1
    have t2 := hb.t0 z2
    have u1 : useR a b = false := by simp [useR, z2]
    have u2 : useB a b = true := by simp [useB, z1]
    have w1 : a.k = 0 ∧ a.c = 0 ∧ a.f = 0 := by simpa [rz] using z1
    have w2 : b.k = 0 ∧ b.c = 0 ∧ b.f = 0 := by simpa [rz] using z2
    simp [u1, u2, t1, t2, w1, w2]
theorem okS_join {a b : Sm} (ha : OkS a) (hb : OkS b) : OkS (join a b) := by
  have mI : ∀ {l m : List Int}, (∀ x ∈ l, 1 ≤ x ∧ x ≤ 12) → (∀ x ∈ m, 1 ≤ x ∧ x ≤ 12) → ∀ x ∈ mg kI fstI l m, 1 ≤ x ∧ x ≤ 12 := by
    intro l m h1 h2 x hx
    obtain ⟨y, h3, h4⟩ := mg_mem kI fstI hkI hx
    have h4' : y = x := h4
    subst h4'
    rcases h3 with h3 | h3
    · exact h1 y h3
    · exact h2 y h3
  have mW : ∀ e ∈ mg kW lat a.W b.W, OkE e := by
    intro e he
    have hs := mg_srt kW lat hkW ha.w hb.w
    have h1 := lk_mem kW hs he
    rw [lk_mg kW lat hkW ha.w hb.w] at h1
    cases h2 : lk kW a.W (kW e) with
    | none =>
      rw [h2] at h1
      exact hb.ws e (lk_some kW h1).1
    | some p =>
      have p1 := ha.ws p (lk_some kW h2).1
      rw [h2] at h1
      cases h3 : lk kW b.W (kW e) with
      | none => rw [h3] at h1; cases h1; exact p1
      | some q =>
        have q1 := hb.ws q (lk_some kW h3).1
        rw [h3] at h1
        simp only [comb, Option.some.injEq] at h1
        rw [← h1]
        unfold lat
        split
        · exact q1
        · exact p1
  refine ⟨mg_srt kI fstI hkI ha.j hb.j, mg_srt kI fstI hkI ha.r hb.r, mg_srt kW lat hkW ha.w hb.w, mI ha.js hb.js, mI ha.rs hb.rs, mW, ?_, ?_, ?_⟩
  · unfold join joinU
    cases useB a b
    · have h1 := ha.z
      unfold rz at h1 ⊢
      exact h1
    · have h1 := hb.z
      unfold rz at h1 ⊢
      exact h1
  · unfold join joinU
    cases useB a b
    · exact ha.t
    · exact hb.t
  · unfold join joinU
    cases useB a b
    · have h1 := ha.t0
      unfold rz at h1 ⊢
      exact h1
    · have h1 := hb.t0
      unfold rz at h1 ⊢
      exact h1

end Go.Proofs.YthfpafnljnnndaaGreat.MM

namespace Go.Proofs.YthfpafnljnnndaaGreat.MM
open JM (Chg)

/-- The changes are each valid, and no two are of one kind and one server. -/
theorem errS_zero {d cs : List Chg} (h : JM.errS d cs = 0) : (∀ x ∈ cs, JM.errCh x = 0 ∧ ∀ y ∈ d, JM.sim y x = false) ∧ cs.Pairwise fun x y => JM.sim x y = false := by
  induction cs generalizing d with
  | nil => exact ⟨(fun _ h => by cases h), List.Pairwise.nil⟩
  | cons x r ih =>
    rw [JM.errS] at h
    by_cases h1 : JM.errCh x = 0
    · rw [if_neg (by simp [h1])] at h
      by_cases h2 : (d.any fun y => JM.sim y x) = true
      · rw [if_pos h2] at h; cases h
      · rw [if_neg h2] at h
        obtain ⟨i1, i2⟩ := ih h
        have h3 : ∀ y ∈ d, JM.sim y x = false := by
          intro y hy
          cases hc : JM.sim y x with
          | false => rfl
          | true => exact absurd (List.any_eq_true.2 ⟨y, hy, hc⟩) h2
        refine ⟨fun z hz => ?_, List.pairwise_cons.2 ⟨fun z hz => (i1 z hz).2 x (by simp), i2⟩⟩
        rcases List.mem_cons.1 hz with rfl | hz
        · exact ⟨h1, h3⟩
        · exact ⟨(i1 z hz).1, fun y hy => (i1 z hz).2 y (by simp [hy])⟩
    · rw [if_pos h1] at h; exact absurd h h1
theorem errP_zero {a n : Int} {cs : List Chg} (h : JM.errP a n cs = 0) : (201 ≤ a ∧ a ≤ 203) ∧ (1 ≤ n ∧ n ≤ 3) ∧ cs.length ≤ 6 ∧ JM.errS [] cs = 0 := by
  unfold JM.errP at h
  split at h
  · cases h
  · rename_i h1
    split at h
    · cases h
    · split at h
      · cases h
      · rename_i h2 h3
        have h4 : JM.isAdm a = true := by cases hc : JM.isAdm a with
          | true => rfl
          | false => exact absurd (Or.inl hc) h1
        exact ⟨JM.isAdm_iff.1 h4, by omega, by omega, h⟩

/-- What a valid change says. -/
theorem chg_zero {k s t v x y z : Int} (h : JM.errCh (k, s, t, v, x, y, z) = 0) :
    (k = 1 ∧ (1 ≤ s ∧ s ≤ 12) ∧ (1 ≤ t ∧ t ≤ 9) ∧ v = 0) ∨ (k = 2 ∧ 1 ≤ s ∧ s ≤ 12) ∨ (k = 3 ∧ (1 ≤ s ∧ s ≤ 12) ∧ (1 ≤ t ∧ t ≤ 9) ∧ 1 ≤ v) ∨ (k = 4 ∧ 1 ≤ v ∧ JM.errR x y z = 0) := by
  have h' : JM.errC k s t v x y z = 0 := h
  unfold JM.errC at h'
  split at h'
  · cases h'
  · rename_i hk
    split at h'
    · cases h'
    · rename_i hs
      split at h'
      · cases h'
      · rename_i ht
        split at h'
        · cases h'
        · rename_i hv
          have hs' := of_decide_eq_true (Bool.of_not_eq_false hs)
          have ht' := of_decide_eq_true (Bool.of_not_eq_false ht)
          have hv' := of_decide_eq_true (Bool.of_not_eq_false hv)
          have hk' : k = 1 ∨ k = 2 ∨ k = 3 ∨ k = 4 := by omega
          rcases hk' with rfl | rfl | rfl | rfl
          · simp [JM.srvOf, JM.wtOf, JM.verOf] at hs' ht' hv'; exact .inl ⟨rfl, by omega, by omega, by omega⟩
          · simp [JM.srvOf, JM.wtOf, JM.verOf] at hs' ht' hv'; exact .inr (.inl ⟨rfl, by omega, by omega⟩)
          · simp [JM.srvOf, JM.wtOf, JM.verOf] at hs' ht' hv'; exact .inr (.inr (.inl ⟨rfl, by omega, by omega, by omega⟩))
          · simp [JM.srvOf, JM.wtOf, JM.verOf] at hs' ht' hv'; rw [if_pos rfl] at h'; exact .inr (.inr (.inr ⟨rfl, by omega, h'⟩))
theorem errR_one {k c f : Int} (h : JM.errR k c f = 0) : k ≠ 0 := by
  intro hk; subst hk
  rw [JM.errR, if_pos (by omega)] at h
  cases h

/-- The program's: what it has gathered ahead of the sorts. -/
def stpC (ad nu : Int) (s : Sm) : Chg → Sm
  | (k, sv, wt, vn, x, y, z) =>
    if k = 1 then { s with J := s.J ++ [sv], W := s.W ++ [(sv, wt, vn, ad, nu)] }
    else if k = 2 then { s with R := s.R ++ [sv] }
    else if k = 3 then { s with W := s.W ++ [(sv, wt, vn, ad, nu)] }
    else if k = 4 then { s with k := x, c := y, f := z, v := vn, a := ad, n := nu }
    else s
def rawP (ad nu : Int) (cs : List Chg) : Sm := cs.foldl (stpC ad nu) emp
theorem rawP_snoc (ad nu : Int) (cs : List Chg) (x : Chg) : rawP ad nu (cs ++ [x]) = stpC ad nu (rawP ad nu cs) x := by
  unfold rawP; rw [List.foldl_append]; rfl
theorem rawP_take (ad nu : Int) (cs : List Chg) (j : Nat) (x : Chg) (h : cs[j]? = some x) : rawP ad nu (cs.take (j + 1)) = stpC ad nu (rawP ad nu (cs.take j)) x := by
  rw [List.take_add_one, h, ← rawP_snoc]; rfl
theorem ofP_snoc (ad nu : Int) (cs : List Chg) (x : Chg) : ofP ad nu (cs ++ [x]) = stp ad nu (ofP ad nu cs) x := by
  unfold ofP; rw [List.foldl_append]; rfl
theorem ofP_take (ad nu : Int) (cs : List Chg) (j : Nat) (x : Chg) (h : cs[j]? = some x) : ofP ad nu (cs.take (j + 1)) = stp ad nu (ofP ad nu (cs.take j)) x := by
  rw [List.take_add_one, h, ← ofP_snoc]; rfl
theorem stpC_len (ad nu : Int) (s : Sm) (x : Chg) : (stpC ad nu s x).J.length ≤ s.J.length + 1 ∧ (stpC ad nu s x).R.length ≤ s.R.length + 1 ∧ (stpC ad nu s x).W.length ≤ s.W.length + 1 := by
  obtain ⟨k, sv, wt, vn, x, y, z⟩ := x
  unfold stpC
  (repeat' split) <;> simp
theorem rawP_len (ad nu : Int) (cs : List Chg) : (rawP ad nu cs).J.length ≤ cs.length ∧ (rawP ad nu cs).R.length ≤ cs.length ∧ (rawP ad nu cs).W.length ≤ cs.length := by
  unfold rawP
  have h : ∀ (cs : List Chg) (s : Sm), (cs.foldl (stpC ad nu) s).J.length ≤ s.J.length + cs.length ∧ (cs.foldl (stpC ad nu) s).R.length ≤ s.R.length + cs.length ∧ (cs.foldl (stpC ad nu) s).W.length ≤ s.W.length + cs.length := by
    intro cs
    induction cs with
    | nil => intro s; simp
    | cons x r ih =>
      intro s
      have h1 := ih (stpC ad nu s x)
      have h2 := stpC_len ad nu s x
      simp only [List.foldl_cons, List.length_cons]
      omega
  simpa [emp] using h cs emp

/-- The greatest version of a server's entries. -/
def Best (l : List Ent) (z : Int) : Option Ent → Prop
  | none => ∀ e ∈ l, e.1 ≠ z
  | some p => p ∈ l ∧ p.1 = z ∧ ∀ e ∈ l, e.1 = z → e.2.2.1 ≤ p.2.2.1
/-- No two entries are of one server and one version. -/
def Dis (l : List Ent) : Prop := l.Pairwise fun a b => ¬ (a.1 = b.1 ∧ a.2.2.1 = b.2.2.1)
theorem Dis.eq {l : List Ent} (h : Dis l) {p q : Ent} (hp : p ∈ l) (hq : q ∈ l) (h1 : p.1 = q.1) (h2 : p.2.2.1 = q.2.2.1) : p = q := by
  induction l with
  | nil => cases hp
  | cons x l ih =>
    have hx := (List.pairwise_cons.1 h).1
    rcases List.mem_cons.1 hp with hp' | hp'
    · rcases List.mem_cons.1 hq with hq' | hq'
      · rw [hp', hq']
      · subst hp'; exact absurd ⟨h1, h2⟩ (hx q hq')
    · rcases List.mem_cons.1 hq with hq' | hq'
      · subst hq'; exact absurd ⟨h1.symm, h2.symm⟩ (hx p hp')
      · exact ih (List.pairwise_cons.1 h).2 hp' hq'
theorem Best.uniq {l : List Ent} (h : Dis l) {z : Int} {o o' : Option Ent} (h1 : Best l z o) (h2 : Best l z o') : o = o' := by
  cases o with
  | none =>
    cases o' with
    | none => rfl
    | some q => exact absurd h2.2.1 (h1 q h2.1)
  | some p =>
    cases o' with
    | none => exact absurd h1.2.1 (h2 p h1.1)
    | some q =>
      have a := h1.2.2 q h2.1 h2.2.1
      have b := h2.2.2 p h1.1 h1.2.1
      rw [h.eq h1.1 h2.1 (by rw [h1.2.1, h2.2.1]) (by omega)]
theorem Best.perm {l l' : List Ent} (h : l.Perm l') {z : Int} {o : Option Ent} (hb : Best l z o) : Best l' z o := by
  cases o with
  | none => exact fun e he => hb e (h.mem_iff.2 he)
  | some p => exact ⟨h.mem_iff.1 hb.1, hb.2.1, fun e he => hb.2.2 e (h.mem_iff.2 he)⟩
theorem Best.ins {l : List Ent} {z ad nu : Int} {o : Option Ent} {w : Ent} (h : Best l z o) (hl : ∀ e ∈ l, e.2.2.2 = (ad, nu)) (hw : w.2.2.2 = (ad, nu)) :
    Best (l ++ [w]) z (comb lat o (if kW w = z then some w else none)) := by
  by_cases hz : w.1 = z
  · rw [if_pos (show kW w = z from hz)]
    cases o with
    | none =>
      refine ⟨by simp, hz, fun e he h1 => ?_⟩
      rcases List.mem_append.1 he with he | he
      · exact absurd h1 (h e he)
      · obtain rfl : e = w := by simpa using he
        exact Int.le_refl _
    | some p =>
      have hp := hl p h.1
      show Best _ z (some (lat p w))
      have ha : aft w.2.2 p.2.2 = decide (p.2.2.1 < w.2.2.1) := by
        unfold aft
        rw [hp, hw]
        rw [decide_eq_decide]
        simp
      unfold lat
      rw [ha]
      by_cases hv : p.2.2.1 < w.2.2.1
      · rw [if_pos (by simpa using hv)]
        refine ⟨by simp, hz, fun e he h1 => ?_⟩
        rcases List.mem_append.1 he with he | he
        · have := h.2.2 e he h1; omega
        · obtain rfl : e = w := by simpa using he
          exact Int.le_refl _
      · rw [if_neg (by simpa using hv)]
        refine ⟨by simp [h.1], h.2.1, fun e he h1 => ?_⟩
        rcases List.mem_append.1 he with he | he
        · exact h.2.2 e he h1
        · obtain rfl : e = w := by simpa using he
          omega
  · rw [if_neg (show ¬ kW w = z from hz), comb_none]
    cases o with
    | none =>
      intro e he
      rcases List.mem_append.1 he with he | he
      · exact h e he
      · obtain rfl : e = w := by simpa using he
        exact hz
    | some p =>
      refine ⟨by simp [h.1], h.2.1, fun e he h1 => ?_⟩
      rcases List.mem_append.1 he with he | he
      · exact h.2.2 e he h1
      · obtain rfl : e = w := by simpa using he
        exact absurd h1 hz

/-! What slices.CompactFunc leaves. -/
def z0 : Ent := (0, 0, 0, 0, 0)
def kp (xs : List Ent) (j : Nat) : Bool := decide (j = 0 ∨ (xs.getD j z0).1 ≠ (xs.getD (j - 1) z0).1)
def cto (xs : List Ent) : Nat → List Ent
  | 0 => []
  | m + 1 => cto xs m ++ if kp xs m = true then [xs.getD m z0] else []
theorem kp_lt_one (xs : List Ent) : ∀ j, j < 1 → kp xs j = true := by
  intro j hj
  obtain rfl : j = 0 := by omega
  simp [kp]
theorem kp_pos {xs : List Ent} {m : Nat} {x y : Ent} (h1 : xs[m]? = some x) (h2 : xs[m - 1]? = some y) (h : x.1 ≠ y.1) : kp xs m = true := by simp [kp, List.getD, h1, h2, h]
theorem kp_neg {xs : List Ent} {m : Nat} {x y : Ent} (hm : 0 < m) (h1 : xs[m]? = some x) (h2 : xs[m - 1]? = some y) (h : x.1 = y.1) : kp xs m = false := by
  have : m ≠ 0 := by omega
  simp [kp, List.getD, h1, h2, h, this]
theorem cto_all {xs : List Ent} : ∀ {m : Nat}, m ≤ xs.length → (∀ j, j < m → kp xs j = true) → cto xs m = xs.take m
  | 0, _, _ => by simp [cto]
  | m + 1, hm, h => by
    rw [cto, cto_all (by omega) (fun j hj => h j (by omega)), if_pos (h m (by omega)), List.take_add_one, List.getElem?_eq_getElem (by omega)]
    simp [List.getD, List.getElem?_eq_getElem (show m < xs.length by omega)]
structure CInv (xs us : List Ent) (m k : Nat) : Prop where
  size : us.length = xs.length
  len : (cto xs m).length = k
  lt : k < m
  low : us.take k = cto xs m
  high : ∀ j, k ≤ j → us[j]? = xs[j]?
theorem CInv.start {xs : List Ent} {k0 : Nat} (hk : k0 < xs.length) (hall : ∀ j, j < k0 → kp xs j = true) (hd : kp xs k0 = false) : CInv xs xs (k0 + 1) k0 := by
  have h1 : cto xs (k0 + 1) = xs.take k0 := by rw [cto, hd, cto_all (by omega) hall]; simp
  exact ⟨rfl, by rw [h1, List.length_take]; omega, by omega, h1.symm, fun _ _ => rfl⟩
theorem CInv.keep {xs us : List Ent} {m k : Nat} {x : Ent} (h : CInv xs us m k) (hx : xs[m]? = some x) (hk : kp xs m = true) : CInv xs (us.set k x) (m + 1) (k + 1) := by
  have hm : m < xs.length := (List.getElem?_eq_some_iff.1 hx).1
  have hl := h.lt
  have hs := h.size
  have h1 : cto xs (m + 1) = cto xs m ++ [x] := by rw [cto, if_pos hk]; simp [List.getD, hx]
  refine ⟨by simp [hs], by rw [h1]; simp [h.len], by omega, ?_, fun j hj => ?_⟩
  · rw [h1, ← h.low, List.take_add_one, List.getElem?_set_self (by omega)]
    simp [List.take_set_of_le]
  · rw [List.getElem?_set_ne (by omega)]
    exact h.high j (by omega)
theorem CInv.skip {xs us : List Ent} {m k : Nat} (h : CInv xs us m k) (hk : kp xs m = false) : CInv xs us (m + 1) k := by
  have h1 : cto xs (m + 1) = cto xs m := by rw [cto, hk]; simp
  exact ⟨h.size, by rw [h1]; exact h.len, by have := h.lt; omega, by rw [h1]; exact h.low, h.high⟩

/-- Sorted by server, the later version first. -/
def Ord (ys : List Ent) : Prop := ∀ (i j : Nat) (a b : Ent), i < j → ys[i]? = some a → ys[j]? = some b → a.1 < b.1 ∨ (a.1 = b.1 ∧ b.2.2.1 ≤ a.2.2.1)
theorem lk_snoc {α : Type} (key : α → Int) (l : List α) (y : α) (z : Int) : lk key (l ++ [y]) z = (lk key l z).or (if key y = z then some y else none) := by
  induction l with
  | nil => rfl
  | cons x l ih =>
    rw [List.cons_append, lk, lk]
    by_cases h : key x = z
    · rw [if_pos h, if_pos h]; rfl
    · rw [if_neg h, if_neg h, ih]
theorem cto_best {ys : List Ent} (h : Ord ys) : ∀ {m : Nat}, m ≤ ys.length → Srt kW (cto ys m) ∧ (∀ e ∈ cto ys m, e ∈ ys.take m) ∧ ∀ z, Best (ys.take m) z (lk kW (cto ys m) z)
  | 0, _ => ⟨List.Pairwise.nil, (fun _ h => by cases h), fun z => by simp [cto, lk, Best]⟩
  | m + 1, hm => by
    obtain ⟨i1, i2, i3⟩ := cto_best h (m := m) (by omega)
    have hy : ys[m]? = some ys[m] := List.getElem?_eq_getElem (by omega)
    generalize hyy : ys[m] = y at hy
    have ht : ys.take (m + 1) = ys.take m ++ [y] := by rw [List.take_add_one, hy]; rfl
    have hmem : ∀ e ∈ ys.take m, ∃ i, i < m ∧ ys[i]? = some e := by
      intro e he
      obtain ⟨i, hi⟩ := List.getElem?_of_mem he
      rw [List.getElem?_take] at hi
      split at hi
      · exact ⟨i, by assumption, hi⟩
      · cases hi
    by_cases hk : kp ys m = true
    · have h1 : cto ys (m + 1) = cto ys m ++ [y] := by rw [cto, if_pos hk]; simp [List.getD, hy]
      have hlt : ∀ e ∈ ys.take m, e.1 < y.1 := by
        intro e he
        obtain ⟨i, hi, hie⟩ := hmem e he
        have hp : ys[m - 1]? = some ys[m - 1] := List.getElem?_eq_getElem (by omega)
        generalize ys[m - 1] = p at hp
        have hne : y.1 ≠ p.1 := by
          intro he2
          rw [kp_neg (by omega) hy hp he2] at hk
          cases hk
        have h2 := h (m - 1) m p y (by omega) hp hy
        by_cases hi2 : i = m - 1
        · subst hi2
          rw [hp] at hie
          obtain rfl := Option.some.inj hie
          omega
        · have h3 := h i (m - 1) e p (by omega) hie hp
          omega
      rw [h1, ht]
      refine ⟨List.pairwise_append.2 ⟨i1, by simp, fun a ha b hb => ?_⟩, fun e he => ?_, fun z => ?_⟩
      · obtain rfl : b = y := by simpa using hb
        exact hlt a (i2 a ha)
      · rcases List.mem_append.1 he with he | he
        · exact List.mem_append_left _ (i2 e he)
        · exact List.mem_append_right _ he
      · rw [lk_snoc]
        have hb := i3 z
        by_cases hz : y.1 = z
        · rw [if_pos (show kW y = z from hz), lk_none kW (l := cto ys m) (fun e he => by have := hlt e (i2 e he); unfold kW; omega)]
          refine ⟨by simp, hz, fun e he h1 => ?_⟩
          rcases List.mem_append.1 he with he | he
          · have := hlt e he; omega
          · obtain rfl : e = y := by simpa using he
            exact Int.le_refl _
        · rw [if_neg (show ¬ kW y = z from hz), Option.or_none]
          cases ho : lk kW (cto ys m) z with
          | none =>
            rw [ho] at hb
            intro e he
            rcases List.mem_append.1 he with he | he
            · exact hb e he
            · obtain rfl : e = y := by simpa using he
              exact hz
          | some p =>
            rw [ho] at hb
            refine ⟨by simp [hb.1], hb.2.1, fun e he h9 => ?_⟩
            rcases List.mem_append.1 he with he | he
            · exact hb.2.2 e he h9
            · obtain rfl : e = y := by simpa using he
              exact absurd h9 hz
    · have h1 : cto ys (m + 1) = cto ys m := by rw [cto, if_neg hk, List.append_nil]
      have hm0 : 0 < m := by
        rcases Nat.eq_zero_or_pos m with rfl | h0
        · exact absurd (kp_lt_one ys 0 (by omega)) hk
        · exact h0
      have hp : ys[m - 1]? = some ys[m - 1] := List.getElem?_eq_getElem (by omega)
      generalize ys[m - 1] = p at hp
      have heq : y.1 = p.1 := by
        by_cases he2 : y.1 = p.1
        · exact he2
        · exact absurd (kp_pos hy hp he2) hk
      have h2 := h (m - 1) m p y (by omega) hp hy
      have hpm : p ∈ ys.take m := List.mem_of_getElem? (i := m - 1) (by rw [List.getElem?_take, if_pos (by omega)]; exact hp)
      rw [h1, ht]
      refine ⟨i1, fun e he => List.mem_append_left _ (i2 e he), fun z => ?_⟩
      have hb := i3 z
      cases ho : lk kW (cto ys m) z with
      | none =>
        rw [ho] at hb
        intro e he
        rcases List.mem_append.1 he with he | he
        · exact hb e he
        · obtain rfl : e = y := by simpa using he
          rw [heq]; exact hb p hpm
      | some q =>
        rw [ho] at hb
        refine ⟨by simp [hb.1], hb.2.1, fun e he h3 => ?_⟩
        rcases List.mem_append.1 he with he | he
        · exact hb.2.2 e he h3
        · obtain rfl : e = y := by simpa using he
          have := hb.2.2 p hpm (by omega)
          omega

/-- What the fold by insertions and the fold by appends have in common. -/
structure Rel (ad nu : Int) (s r : Sm) : Prop where
  j : Srt kI s.J
  jm : ∀ x, x ∈ s.J ↔ x ∈ r.J
  rs : Srt kI s.R
  rm : ∀ x, x ∈ s.R ↔ x ∈ r.R
  w : Srt kW s.W
  wo : ∀ e ∈ r.W, e.2.2.2 = (ad, nu)
  wb : ∀ z, Best r.W z (lk kW s.W z)
  k : s.k = r.k
  c : s.c = r.c
  f : s.f = r.f
  v : s.v = r.v
  a : s.a = r.a
  n : s.n = r.n
theorem mem_insI {x y : Int} {l : List Int} (h : Srt kI l) : y ∈ insI x l ↔ y ∈ l ∨ y = x := by
  have hs := ins_srt kI fstI hkI x h
  have e1 : y ∈ insI x l ↔ lk kI (insI x l) y = some y := ⟨fun hm => lk_mem kI hs hm, fun hm => (lk_some kI hm).1⟩
  have e2 : y ∈ l ↔ lk kI l y = some y := ⟨fun hm => lk_mem kI h hm, fun hm => (lk_some kI hm).1⟩
  rw [e1, insI, lk_ins kI fstI hkI x h, e2]
  by_cases hx : x = y
  · subst hx
    rw [if_pos (show kI x = x from rfl)]
    constructor
    · intro _; exact .inr rfl
    · intro _
      cases hl : lk kI l x with
      | none => rfl
      | some p =>
        have := (lk_some kI hl).2
        show some (fstI p x) = some x
        rw [show p = x from this]; rfl
  · rw [if_neg (show ¬ kI x = y from hx), comb_none]
    constructor
    · intro h; exact .inl h
    · rintro (h | h)
      · exact h
      · exact absurd h.symm hx
theorem Rel.step {ad nu : Int} {s r : Sm} (h : Rel ad nu s r) {x : Chg} (hx : x.1 = 1 → x.2.2.2.1 = 0) : Rel ad nu (stp ad nu s x) (stpC ad nu r x) := by
  obtain ⟨k, sv, wt, vn, a, b, c⟩ := x
  dsimp only at hx
  have hJ : Srt kI (insI sv s.J) := ins_srt kI fstI hkI sv h.j
  have hR : Srt kI (insI sv s.R) := ins_srt kI fstI hkI sv h.rs
  have hJm : ∀ y, y ∈ insI sv s.J ↔ y ∈ r.J ++ [sv] := by intro y; rw [mem_insI h.j, h.jm]; simp
  have hRm : ∀ y, y ∈ insI sv s.R ↔ y ∈ r.R ++ [sv] := by intro y; rw [mem_insI h.rs, h.rm]; simp
  have hW : ∀ v', Srt kW (insW (sv, wt, v', ad, nu) s.W) := fun v' => ins_srt kW lat hkW _ h.w
  have hWo : ∀ v', ∀ e ∈ r.W ++ [((sv, wt, v', ad, nu) : Ent)], e.2.2.2 = (ad, nu) := by
    intro v' e he
    rcases List.mem_append.1 he with he | he
    · exact h.wo e he
    · obtain rfl : e = (sv, wt, v', ad, nu) := by simpa using he
      rfl
  have hWb : ∀ v' z, Best (r.W ++ [((sv, wt, v', ad, nu) : Ent)]) z (lk kW (insW (sv, wt, v', ad, nu) s.W) z) := by
    intro v' z
    rw [insW, lk_ins kW lat hkW _ h.w]
    exact (h.wb z).ins h.wo rfl
  simp only [stp, stpC]
  split
  · rename_i h1
    rw [hx h1]
    exact ⟨hJ, hJm, h.rs, h.rm, hW 0, hWo 0, hWb 0, h.k, h.c, h.f, h.v, h.a, h.n⟩
  · split
    · exact ⟨h.j, h.jm, hR, hRm, h.w, h.wo, h.wb, h.k, h.c, h.f, h.v, h.a, h.n⟩
    · split
      · exact ⟨h.j, h.jm, h.rs, h.rm, hW vn, hWo vn, hWb vn, h.k, h.c, h.f, h.v, h.a, h.n⟩
      · split
        · exact ⟨h.j, h.jm, h.rs, h.rm, h.w, h.wo, h.wb, rfl, rfl, rfl, rfl, rfl, rfl⟩
        · exact h
theorem rel_ofP {ad nu : Int} {cs : List Chg} (h : ∀ x ∈ cs, x.1 = 1 → x.2.2.2.1 = 0) : Rel ad nu (ofP ad nu cs) (rawP ad nu cs) := by
  have hg : ∀ (cs : List Chg) (s r : Sm), (∀ x ∈ cs, x.1 = 1 → x.2.2.2.1 = 0) → Rel ad nu s r → Rel ad nu (cs.foldl (stp ad nu) s) (cs.foldl (stpC ad nu) r) := by
    intro cs
    induction cs with
    | nil => intro s r _ h; exact h
    | cons x cs ih => intro s r hx h; exact ih _ _ (fun y hy => hx y (by simp [hy])) (h.step (hx x (by simp)))
  refine hg cs emp emp h ⟨List.Pairwise.nil, fun _ => Iff.rfl, List.Pairwise.nil, fun _ => Iff.rfl, List.Pairwise.nil, (fun _ h => by cases h), fun z => ?_, rfl, rfl, rfl, rfl, rfl, rfl⟩
  intro e he; cases he

/-- The gathered lists, by the changes. -/
def jOf : Chg → Option Int
  | (k, s, _) => if k = 1 then some s else none
def rOf : Chg → Option Int
  | (k, s, _) => if k = 2 then some s else none
def wOf (ad nu : Int) : Chg → Option Ent
  | (k, s, t, v, _) => if k = 1 ∨ k = 3 then some (s, t, v, ad, nu) else none
theorem raw_lists (ad nu : Int) (cs : List Chg) : (rawP ad nu cs).J = cs.filterMap jOf ∧ (rawP ad nu cs).R = cs.filterMap rOf ∧ (rawP ad nu cs).W = cs.filterMap (wOf ad nu) := by
  have hg : ∀ (cs : List Chg) (s : Sm), (cs.foldl (stpC ad nu) s).J = s.J ++ cs.filterMap jOf ∧ (cs.foldl (stpC ad nu) s).R = s.R ++ cs.filterMap rOf ∧ (cs.foldl (stpC ad nu) s).W = s.W ++ cs.filterMap (wOf ad nu) := by
    intro cs
    induction cs with
    | nil => intro s; simp
    | cons x cs ih =>
      intro s
      obtain ⟨h1, h2, h3⟩ := ih (stpC ad nu s x)
      rw [List.foldl_cons, h1, h2, h3]
      obtain ⟨k, sv, wt, vn, a, b, c⟩ := x
      by_cases k1 : k = 1
      · subst k1; simp [stpC, jOf, rOf, wOf]
      · by_cases k2 : k = 2
        · subst k2; simp [stpC, jOf, rOf, wOf]
        · by_cases k3 : k = 3
          · subst k3; simp [stpC, jOf, rOf, wOf]
          · by_cases k4 : k = 4
            · subst k4; simp [stpC, jOf, rOf, wOf]
            · simp [stpC, jOf, rOf, wOf, k1, k2, k3, k4]
  have := hg cs emp
  simpa [emp, rawP] using this
theorem sim_iff {x y : Chg} : JM.sim x y = false ↔ ¬ (x.1 = y.1 ∧ x.2.1 = y.2.1) := by
  unfold JM.sim
  rw [Bool.and_eq_false_iff]
  simp only [beq_eq_false_iff_ne]
  constructor
  · rintro (h | h) ⟨h1, h2⟩
    · exact h h1
    · exact h h2
  · intro h
    by_cases h1 : x.1 = y.1
    · exact .inr fun h2 => h ⟨h1, h2⟩
    · exact .inl h1
theorem raw_nodup {ad nu : Int} {cs : List Chg} (h : JM.errS [] cs = 0) : (rawP ad nu cs).J.Pairwise (· ≠ ·) ∧ (rawP ad nu cs).R.Pairwise (· ≠ ·) ∧ Dis (rawP ad nu cs).W := by
  obtain ⟨h1, h2⟩ := errS_zero h
  obtain ⟨e1, e2, e3⟩ := raw_lists ad nu cs
  have h4 : cs.Pairwise fun x y => JM.sim x y = false ∧ JM.errCh x = 0 ∧ JM.errCh y = 0 := by
    refine List.Pairwise.imp_of_mem ?_ h2
    intro a b ha hb hab
    exact ⟨hab, (h1 a ha).1, (h1 b hb).1⟩
  rw [e1, e2, e3]
  refine ⟨List.pairwise_filterMap.2 (h4.imp ?_), List.pairwise_filterMap.2 (h4.imp ?_), List.pairwise_filterMap.2 (h4.imp ?_)⟩
  · rintro ⟨k, s, t, v, a, b, c⟩ ⟨k', s', t', v', a', b', c'⟩ ⟨hs, hx, hy⟩ x hxe y hye
    have hs := sim_iff.1 hs
    simp only [jOf] at hxe hye
    split at hxe
    · split at hye
      · cases hxe; cases hye
        rename_i p q
        intro he; exact hs ⟨by rw [p, q], he⟩
      · cases hye
    · cases hxe
  · rintro ⟨k, s, t, v, a, b, c⟩ ⟨k', s', t', v', a', b', c'⟩ ⟨hs, hx, hy⟩ x hxe y hye
    have hs := sim_iff.1 hs
    simp only [rOf] at hxe hye
    split at hxe
    · split at hye
      · cases hxe; cases hye
        rename_i p q
        intro he; exact hs ⟨by rw [p, q], he⟩
      · cases hye
    · cases hxe
  · rintro ⟨k, s, t, v, a, b, c⟩ ⟨k', s', t', v', a', b', c'⟩ ⟨hs, hx, hy⟩ x hxe y hye
    have hs := sim_iff.1 hs
    have hx := chg_zero hx
    have hy := chg_zero hy
    simp only [wOf] at hxe hye
    dsimp only at hs
    split at hxe
    · split at hye
      · cases hxe; cases hye
        dsimp only
        omega
      · cases hye
    · cases hxe

theorem srtI_ext {l l' : List Int} (h : Srt kI l) (h' : Srt kI l') (hm : ∀ x, x ∈ l ↔ x ∈ l') : l = l' := by
  refine ext kI h h' fun x => ?_
  have e1 : ∀ {m : List Int}, Srt kI m → lk kI m x = if x ∈ m then some x else none := by
    intro m hm
    by_cases hx : x ∈ m
    · rw [if_pos hx]; exact lk_mem kI hm hx
    · rw [if_neg hx]
      exact lk_none kI fun y hy he => hx (by rw [show x = y from he.symm]; exact hy)
  rw [e1 h, e1 h']
  by_cases hx : x ∈ l
  · rw [if_pos hx, if_pos ((hm x).1 hx)]
  · rw [if_neg hx, if_neg (fun hx' => hx ((hm x).2 hx'))]
theorem sort_srt {l : List Int} (h : l.Pairwise (· ≠ ·)) : Srt kI (l.mergeSort fun x y => decide (x ≤ y)) := by
  have hp := List.mergeSort_perm l fun x y => decide (x ≤ y)
  have h1 : (l.mergeSort fun x y => decide (x ≤ y)).Pairwise (· ≠ ·) := (hp.pairwise_iff (fun {_ _} h => Ne.symm h)).2 h
  have h2 := List.pairwise_mergeSort (le := fun x y : Int => decide (x ≤ y)) (by intro a b c h1 h2; simp at *; omega) (by intro a b; simp; omega) l
  refine (h1.and h2).imp ?_
  rintro a b ⟨h3, h4⟩
  have := of_decide_eq_true h4
  show a < b
  omega

/-- The two summaries of a valid proposal are one. -/
theorem ofP_sort {ad nu : Int} {cs : List Chg} (h : JM.errS [] cs = 0) {ys : List Ent} (hp : ys.Perm (rawP ad nu cs).W) (ho : Ord ys) :
    ofP ad nu cs = ⟨(rawP ad nu cs).J.mergeSort fun x y => decide (x ≤ y), (rawP ad nu cs).R.mergeSort fun x y => decide (x ≤ y), cto ys ys.length, (rawP ad nu cs).k, (rawP ad nu cs).c, (rawP ad nu cs).f, (rawP ad nu cs).v, (rawP ad nu cs).a, (rawP ad nu cs).n⟩ := by
  have hr : Rel ad nu (ofP ad nu cs) (rawP ad nu cs) := rel_ofP fun x hx h1 => by
    have h2 := ((errS_zero h).1 x hx).1
    obtain ⟨k, s, t, v, a, b, c⟩ := x
    dsimp only at h1 ⊢
    subst h1
    have := chg_zero h2
    omega
  obtain ⟨n1, n2, n3⟩ := raw_nodup (ad := ad) (nu := nu) h
  have eJ : (ofP ad nu cs).J = (rawP ad nu cs).J.mergeSort fun x y => decide (x ≤ y) := srtI_ext hr.j (sort_srt n1) fun x => by rw [hr.jm, (List.mergeSort_perm _ _).mem_iff]
  have eR : (ofP ad nu cs).R = (rawP ad nu cs).R.mergeSort fun x y => decide (x ≤ y) := srtI_ext hr.rs (sort_srt n2) fun x => by rw [hr.rm, (List.mergeSort_perm _ _).mem_iff]
  obtain ⟨c1, c2, c3⟩ := cto_best ho (m := ys.length) (Nat.le_refl _)
  rw [List.take_length] at c3
  have eW : (ofP ad nu cs).W = cto ys ys.length := ext kW hr.w c1 fun z => (hr.wb z).uniq n3 ((c3 z).perm hp)
  rw [← eJ, ← eR, ← eW, ← hr.k, ← hr.c, ← hr.f, ← hr.v, ← hr.a, ← hr.n]

/-- A valid proposal's summary is valid. -/
theorem okS_emp : OkS emp := ⟨List.Pairwise.nil, List.Pairwise.nil, List.Pairwise.nil, (fun _ h => by cases h), (fun _ h => by cases h), (fun _ h => by cases h), .inl rfl, by decide, fun _ => ⟨rfl, rfl, rfl⟩⟩
theorem okS_stp {ad nu : Int} {s : Sm} (h : OkS s) (ha : 0 ≤ ad) (hn : 0 ≤ nu) {x : Chg} (hx : JM.errCh x = 0) : OkS (stp ad nu s x) := by
  obtain ⟨k, sv, wt, vn, a, b, c⟩ := x
  have hc := chg_zero hx
  have hI : ∀ {l : List Int}, Srt kI l → (∀ x ∈ l, 1 ≤ x ∧ x ≤ 12) → 1 ≤ sv ∧ sv ≤ 12 → Srt kI (insI sv l) ∧ ∀ x ∈ insI sv l, 1 ≤ x ∧ x ≤ 12 := by
    intro l h1 h2 h3
    refine ⟨ins_srt kI fstI hkI sv h1, fun x hx => ?_⟩
    rcases (mem_insI h1).1 hx with h4 | rfl
    · exact h2 x h4
    · exact h3
  have hW : ∀ v', OkE (sv, wt, v', ad, nu) → Srt kW (insW (sv, wt, v', ad, nu) s.W) ∧ ∀ e ∈ insW (sv, wt, v', ad, nu) s.W, OkE e := by
    intro v' hv
    have hs : Srt kW (insW (sv, wt, v', ad, nu) s.W) := ins_srt kW lat hkW _ h.w
    refine ⟨hs, fun e he => ?_⟩
    have h1 := lk_mem kW hs he
    rw [insW, lk_ins kW lat hkW _ h.w] at h1
    have hlat : ∀ p : Ent, OkE p → OkE (lat p (sv, wt, v', ad, nu)) := by
      intro p hp
      unfold lat
      split
      · exact hv
      · exact hp
    by_cases hz : kW (sv, wt, v', ad, nu) = kW e
    · rw [if_pos hz] at h1
      cases h2 : lk kW s.W (kW e) with
      | none => rw [h2] at h1; cases h1; exact hv
      | some p =>
        rw [h2] at h1
        have h3 : some (lat p (sv, wt, v', ad, nu)) = some e := h1
        rw [← Option.some.inj h3]
        exact hlat p (h.ws p (lk_some kW h2).1)
    · rw [if_neg hz, comb_none] at h1
      exact h.ws e (lk_some kW h1).1
  rcases hc with ⟨rfl, h1, h2, rfl⟩ | ⟨rfl, h1⟩ | ⟨rfl, h1, h2, h3⟩ | ⟨rfl, h1, h2⟩
  · have i1 := hI h.j h.js h1
    have i2 := hW 0 ⟨h1, h2.1, h2.2, Int.le_refl 0, ha, hn⟩
    exact ⟨i1.1, h.r, i2.1, i1.2, h.rs, i2.2, h.z, h.t, h.t0⟩
  · have i1 := hI h.r h.rs h1
    exact ⟨h.j, i1.1, h.w, h.js, i1.2, h.ws, h.z, h.t, h.t0⟩
  · have i2 := hW vn ⟨h1, h2.1, h2.2, by show 0 ≤ vn; omega, ha, hn⟩
    exact ⟨h.j, h.r, i2.1, h.js, h.rs, i2.2, h.z, h.t, h.t0⟩
  · have hk := errR_one h2
    have e : stp ad nu s (4, sv, wt, vn, a, b, c) = { s with k := a, c := b, f := c, v := vn, a := ad, n := nu } := rfl
    rw [e]
    refine ⟨h.j, h.r, h.w, h.js, h.rs, h.ws, .inr h2, ⟨by show 0 ≤ vn; omega, ha, hn⟩, fun hz => ?_⟩
    have : decide (a = 0 ∧ b = 0 ∧ c = 0) = true := hz
    exact absurd (of_decide_eq_true this).1 hk
theorem okS_ofP {ad nu : Int} {cs : List Chg} (h : JM.errP ad nu cs = 0) : OkS (ofP ad nu cs) := by
  obtain ⟨h1, h2, h3, h4⟩ := errP_zero h
  have h5 := (errS_zero h4).1
  have hg : ∀ (cs : List Chg) (s : Sm), (∀ x ∈ cs, JM.errCh x = 0) → OkS s → OkS (cs.foldl (stp ad nu) s) := by
    intro cs
    induction cs with
    | nil => intro s _ h; exact h
    | cons x cs ih => intro s hx h; exact ih _ (fun y hy => hx y (by simp [hy])) (okS_stp h (by omega) (by omega) (hx x (by simp)))
  exact hg cs emp (fun x hx => (h5 x hx).1) okS_emp

end Go.Proofs.YthfpafnljnnndaaGreat.MM

namespace Go.Proofs.YthfpafnljnnndaaGreat.MM
open JM (Chg)

theorem aft_iff {x y : Tri} : aft x y = true ↔ (y.1 < x.1 ∨ y.1 = x.1 ∧ (y.2.1 < x.2.1 ∨ y.2.1 = x.2.1 ∧ y.2.2 < x.2.2)) := decide_eq_true_iff
theorem aft_eq {x y : Tri} (h1 : aft x y = false) (h2 : aft y x = false) : x = y := by
  have h1 := of_decide_eq_false h1
  have h2 := of_decide_eq_false h2
  obtain ⟨a, b, c⟩ := x
  obtain ⟨a', b', c'⟩ := y
  dsimp only at h1 h2
  have e1 : a = a' := by omega
  have e2 : b = b' := by omega
  have e3 : c = c' := by omega
  rw [e1, e2, e3]
theorem aft_self (x : Tri) : aft x x = false := decide_eq_false (by omega)
theorem aft_le {x y z : Tri} (h1 : aft x y = false) (h2 : aft y z = false) : aft x z = false := by
  have h1 := of_decide_eq_false h1
  have h2 := of_decide_eq_false h2
  exact decide_eq_false (by omega)
theorem aft_lt {x y z : Tri} (h1 : aft x y = true) (h2 : aft z y = false) : aft z x = false := by
  have h1 := aft_iff.1 h1
  have h2 := of_decide_eq_false h2
  exact decide_eq_false (by omega)

/-- The latest entry of a server in the summaries T. -/
def Lat (T : List Sm) (z : Int) : Option Ent → Prop
  | none => ∀ u ∈ T, ∀ e ∈ u.W, e.1 ≠ z
  | some p => (∃ u ∈ T, p ∈ u.W) ∧ p.1 = z ∧ ∀ u ∈ T, ∀ e ∈ u.W, e.1 = z → aft e.2.2 p.2.2 = false
/-- The latest rule. -/
def LatR (T : List Sm) (s : Sm) : Prop :=
  (rz s = true ∧ ∀ u ∈ T, rz u = true) ∨ (rz s = false ∧ (∃ u ∈ T, rz u = false ∧ u.k = s.k ∧ u.c = s.c ∧ u.f = s.f ∧ tri u = tri s) ∧ ∀ u ∈ T, rz u = false → aft (tri u) (tri s) = false)
/-- s is what the summaries T are together. -/
structure Sp (T : List Sm) (s : Sm) : Prop where
  ok : OkS s
  j : ∀ x, x ∈ s.J ↔ ∃ u ∈ T, x ∈ u.J
  r : ∀ x, x ∈ s.R ↔ ∃ u ∈ T, x ∈ u.R
  w : ∀ z, Lat T z (lk kW s.W z)
  l : LatR T s
/-- Equal triples mean equal entries, equal rules. -/
structure Cmp (T : List Sm) : Prop where
  w : ∀ u ∈ T, ∀ v ∈ T, ∀ e ∈ u.W, ∀ e' ∈ v.W, e.1 = e'.1 → e.2.2 = e'.2.2 → e = e'
  l : ∀ u ∈ T, ∀ v ∈ T, rz u = false → rz v = false → tri u = tri v → u.k = v.k ∧ u.c = v.c ∧ u.f = v.f
theorem Lat.set {T T' : List Sm} (h : ∀ u, u ∈ T ↔ u ∈ T') {z : Int} {o : Option Ent} (hl : Lat T z o) : Lat T' z o := by
  cases o with
  | none => exact fun u hu => hl u ((h u).2 hu)
  | some p =>
    obtain ⟨⟨u, h1, h2⟩, h3, h4⟩ := hl
    exact ⟨⟨u, (h u).1 h1, h2⟩, h3, fun v hv => h4 v ((h v).2 hv)⟩
theorem Sp.set {T T' : List Sm} (h : ∀ u, u ∈ T ↔ u ∈ T') {s : Sm} (hs : Sp T s) : Sp T' s := by
  refine ⟨hs.ok, fun x => ?_, fun x => ?_, fun z => (hs.w z).set h, ?_⟩
  · rw [hs.j]; simp only [h]
  · rw [hs.r]; simp only [h]
  · rcases hs.l with ⟨h1, h2⟩ | ⟨h1, ⟨u, h2, h3⟩, h4⟩
    · exact .inl ⟨h1, fun u hu => h2 u ((h u).2 hu)⟩
    · exact .inr ⟨h1, ⟨u, (h u).1 h2, h3⟩, fun v hv => h4 v ((h v).2 hv)⟩
theorem rz_iff {s : Sm} : rz s = true ↔ s.k = 0 ∧ s.c = 0 ∧ s.f = 0 := decide_eq_true_iff
/-- One set, one summary. -/
theorem Sp.uniq {T : List Sm} (hc : Cmp T) {s t : Sm} (hs : Sp T s) (ht : Sp T t) : s = t := by
  have eJ : s.J = t.J := srtI_ext hs.ok.j ht.ok.j fun x => by rw [hs.j, ht.j]
  have eR : s.R = t.R := srtI_ext hs.ok.r ht.ok.r fun x => by rw [hs.r, ht.r]
  have eW : s.W = t.W := ext kW hs.ok.w ht.ok.w fun z => by
    have h1 := hs.w z
    have h2 := ht.w z
    cases ho : lk kW s.W z with
    | none =>
      rw [ho] at h1
      cases ho' : lk kW t.W z with
      | none => rfl
      | some q =>
        rw [ho'] at h2
        obtain ⟨⟨u, a, b⟩, c, d⟩ := h2
        exact absurd c (h1 u a q b)
    | some p =>
      rw [ho] at h1
      obtain ⟨⟨u, a, b⟩, c, d⟩ := h1
      cases ho' : lk kW t.W z with
      | none => rw [ho'] at h2; exact absurd c (h2 u a p b)
      | some q =>
        rw [ho'] at h2
        obtain ⟨⟨u', a', b'⟩, c', d'⟩ := h2
        rw [hc.w u a u' a' p b q b' (by rw [c, c']) (aft_eq (d' u a p b c) (d u' a' q b' c'))]
  have eL : s.k = t.k ∧ s.c = t.c ∧ s.f = t.f ∧ s.v = t.v ∧ s.a = t.a ∧ s.n = t.n := by
    rcases hs.l with ⟨h1, h2⟩ | ⟨h1, ⟨u, h2, h3, h4, h5, h6, h7⟩, h8⟩
    · rcases ht.l with ⟨k1, k2⟩ | ⟨k1, ⟨u', k2, k3, k4, k5, k6, k7⟩, k8⟩
      · have a := rz_iff.1 h1
        have b := rz_iff.1 k1
        have c := hs.ok.t0 h1
        have d := ht.ok.t0 k1
        omega
      · rw [h2 u' k2] at k3; cases k3
    · rcases ht.l with ⟨k1, k2⟩ | ⟨k1, ⟨u', k2, k3, k4, k5, k6, k7⟩, k8⟩
      · rw [k2 u h2] at h3; cases h3
      · have e : tri s = tri t := by
          have x1 := k8 u h2 h3
          have x2 := h8 u' k2 k3
          rw [h7] at x1
          rw [k7] at x2
          exact aft_eq x1 x2
        have e2 := hc.l u h2 u' k2 h3 k3 (by rw [h7, k7, e])
        have e3 : s.v = t.v ∧ s.a = t.a ∧ s.n = t.n := by
          unfold tri at e
          injection e with e1 e
          injection e with e2 e3
          exact ⟨e1, e2, e3⟩
        omega
  obtain ⟨j, r, w, k, c, f, v, a, n⟩ := s
  obtain ⟨j', r', w', k', c', f', v', a', n'⟩ := t
  dsimp only at eJ eR eW eL
  obtain ⟨rfl, rfl, rfl, rfl, rfl, rfl⟩ := eL
  rw [eJ, eR, eW]
theorem Sp.one {s : Sm} (h : OkS s) : Sp [s] s := by
  refine ⟨h, fun x => by simp, fun x => by simp, fun z => ?_, ?_⟩
  · cases ho : lk kW s.W z with
    | none =>
      intro u hu e he h1
      obtain rfl : u = s := by simpa using hu
      have := lk_mem kW h.w he
      rw [show kW e = z from h1, ho] at this
      cases this
    | some p =>
      obtain ⟨h1, h2⟩ := lk_some kW ho
      refine ⟨⟨s, by simp, h1⟩, h2, fun u hu e he h3 => ?_⟩
      obtain rfl : u = s := by simpa using hu
      have := lk_mem kW h.w he
      rw [show kW e = z from h3, ho] at this
      obtain rfl := Option.some.inj this
      exact aft_self _
  · cases hz : rz s with
    | true => exact .inl ⟨hz, fun u hu => by obtain rfl : u = s := by simpa using hu
                                             exact hz⟩
    | false =>
      refine .inr ⟨hz, ⟨s, by simp, hz, rfl, rfl, rfl, rfl⟩, fun u hu _ => ?_⟩
      obtain rfl : u = s := by simpa using hu
      exact aft_self _
theorem Sp.emp : Sp [] emp := by
  refine ⟨okS_emp, fun x => by simp [MM.emp], fun x => by simp [MM.emp], fun z => ?_, .inl ⟨rfl, fun u hu => by cases hu⟩⟩
  intro u hu; cases hu
theorem mem_mgI {l m : List Int} (h : Srt kI l) (k : Srt kI m) {x : Int} : x ∈ mg kI fstI l m ↔ x ∈ l ∨ x ∈ m := by
  have hs := mg_srt kI fstI hkI h k
  have e : ∀ {l : List Int}, Srt kI l → (x ∈ l ↔ ∃ y, lk kI l x = some y) := by
    intro l hl
    constructor
    · intro hm; exact ⟨x, lk_mem kI hl hm⟩
    · rintro ⟨y, hy⟩
      obtain ⟨h1, h2⟩ := lk_some kI hy
      rw [show x = y from h2.symm]; exact h1
  rw [e hs, e h, e k, lk_mg kI fstI hkI h k]
  cases lk kI l x <;> cases lk kI m x <;> simp [comb]
theorem Sp.join {T T' : List Sm} {s t : Sm} (hs : Sp T s) (ht : Sp T' t) : Sp (T ++ T') (join s t) := by
  refine ⟨okS_join hs.ok ht.ok, fun x => ?_, fun x => ?_, fun z => ?_, ?_⟩
  · show x ∈ mg kI fstI s.J t.J ↔ _
    rw [mem_mgI hs.ok.j ht.ok.j, hs.j, ht.j]
    simp only [List.mem_append, or_and_right, exists_or]
  · show x ∈ mg kI fstI s.R t.R ↔ _
    rw [mem_mgI hs.ok.r ht.ok.r, hs.r, ht.r]
    simp only [List.mem_append, or_and_right, exists_or]
  · show Lat _ z (lk kW (mg kW lat s.W t.W) z)
    rw [lk_mg kW lat hkW hs.ok.w ht.ok.w]
    have h1 := hs.w z
    have h2 := ht.w z
    cases ho : lk kW s.W z with
    | none =>
      rw [ho] at h1
      cases ho' : lk kW t.W z with
      | none =>
        rw [ho'] at h2
        intro u hu
        rcases List.mem_append.1 hu with hu | hu
        · exact h1 u hu
        · exact h2 u hu
      | some q =>
        rw [ho'] at h2
        obtain ⟨⟨u, a, b⟩, c, d⟩ := h2
        refine ⟨⟨u, by simp [a], b⟩, c, fun v hv e he h3 => ?_⟩
        rcases List.mem_append.1 hv with hv | hv
        · exact absurd h3 (h1 v hv e he)
        · exact d v hv e he h3
    | some p =>
      rw [ho] at h1
      obtain ⟨⟨u, a, b⟩, c, d⟩ := h1
      cases ho' : lk kW t.W z with
      | none =>
        rw [ho'] at h2
        refine ⟨⟨u, by simp [a], b⟩, c, fun v hv e he h3 => ?_⟩
        rcases List.mem_append.1 hv with hv | hv
        · exact d v hv e he h3
        · exact absurd h3 (h2 v hv e he)
      | some q =>
        rw [ho'] at h2
        obtain ⟨⟨u', a', b'⟩, c', d'⟩ := h2
        show Lat _ z (some (lat p q))
        unfold lat
        by_cases hq : aft q.2.2 p.2.2 = true
        · rw [if_pos hq]
          refine ⟨⟨u', by simp [a'], b'⟩, c', fun v hv e he h3 => ?_⟩
          rcases List.mem_append.1 hv with hv | hv
          · exact aft_lt hq (d v hv e he h3)
          · exact d' v hv e he h3
        · rw [if_neg hq]
          have hq' : aft q.2.2 p.2.2 = false := by simpa using hq
          refine ⟨⟨u, by simp [a], b⟩, c, fun v hv e he h3 => ?_⟩
          rcases List.mem_append.1 hv with hv | hv
          · exact d v hv e he h3
          · exact aft_le (d' v hv e he h3) hq'
  · have hU : MM.join s t = joinU (useB s t) s t := rfl
    rw [hU]
    unfold useB
    rcases hs.l with ⟨h1, h2⟩ | ⟨h1, ⟨u, h2, h3, h4⟩, h8⟩
    · rw [h1]
      show LatR _ (joinU true s t)
      rcases ht.l with ⟨k1, k2⟩ | ⟨k1, ⟨u', k2, k3, k4⟩, k8⟩
      · refine .inl ⟨k1, fun u hu => ?_⟩
        rcases List.mem_append.1 hu with hu | hu
        · exact h2 u hu
        · exact k2 u hu
      · refine .inr ⟨k1, ⟨u', by simp [k2], k3, k4⟩, fun v hv hz => ?_⟩
        rcases List.mem_append.1 hv with hv | hv
        · rw [h2 v hv] at hz; cases hz
        · exact k8 v hv hz
    · rw [h1]
      rcases ht.l with ⟨k1, k2⟩ | ⟨k1, ⟨u', k2, k3, k4⟩, k8⟩
      · rw [k1]
        show LatR _ (joinU false s t)
        refine .inr ⟨h1, ⟨u, by simp [h2], h3, h4⟩, fun v hv hz => ?_⟩
        rcases List.mem_append.1 hv with hv | hv
        · exact h8 v hv hz
        · rw [k2 v hv] at hz; cases hz
      · rw [k1]
        cases ha : aft (tri t) (tri s) with
        | true =>
          show LatR _ (joinU true s t)
          refine .inr ⟨k1, ⟨u', by simp [k2], k3, k4⟩, fun v hv hz => ?_⟩
          rcases List.mem_append.1 hv with hv | hv
          · exact aft_lt ha (h8 v hv hz)
          · exact k8 v hv hz
        | false =>
          show LatR _ (joinU false s t)
          refine .inr ⟨h1, ⟨u, by simp [h2], h3, h4⟩, fun v hv hz => ?_⟩
          rcases List.mem_append.1 hv with hv | hv
          · exact h8 v hv hz
          · exact aft_le (k8 v hv hz) ha

/-! The summary of a genesis; of a configuration. -/
theorem val_srt {p : Int} {ms : List Mem} (h : Val p ms) : ms.Pairwise (fun x y => x.1 < y.1) ∧ ∀ m ∈ ms, p < m.1 ∧ (1 ≤ m.1 ∧ m.1 ≤ 12) ∧ 1 ≤ m.2 ∧ m.2 ≤ 9 := by
  induction ms generalizing p with
  | nil => exact ⟨List.Pairwise.nil, fun _ h => by cases h⟩
  | cons m v ih =>
    obtain ⟨h1, h2, h3, h4, h5, h6⟩ := h
    obtain ⟨i1, i2⟩ := ih h6
    refine ⟨List.pairwise_cons.2 ⟨fun y hy => (i2 y hy).1, i1⟩, fun y hy => ?_⟩
    rcases List.mem_cons.1 hy with rfl | hy
    · exact ⟨h1, ⟨h2, h3⟩, h4, h5⟩
    · have := i2 y hy; exact ⟨by omega, this.2⟩
theorem errG_zero {k c f : Int} {ms : List Mem} (h : errG k c f ms = 0) : JM.errR k c f = 0 ∧ Val 0 ms ∧ ms ≠ [] := by
  unfold errG at h
  by_cases h1 : errV k c f ms = 0
  · rw [if_pos h1] at h
    unfold errV at h1
    by_cases h2 : JM.errR k c f = 0
    · rw [if_pos h2] at h1
      refine ⟨h2, errM_val.1 h1, fun hn => ?_⟩
      rw [if_pos hn] at h; cases h
    · rw [if_neg h2] at h1; exact absurd h1 h2
  · rw [if_neg h1] at h; exact absurd h h1
theorem okS_ini {k c f : Int} {ms : List Mem} (h1 : JM.errR k c f = 0) (h2 : Val 0 ms) : OkS (ini ms k c f) := by
  obtain ⟨a, b⟩ := val_srt h2
  refine ⟨List.pairwise_map.2 a, List.Pairwise.nil, List.pairwise_map.2 a, fun x hx => ?_, (fun _ h => by cases h), fun e he => ?_, .inr h1, ⟨Int.le_refl 0, Int.le_refl 0, Int.le_refl 0⟩, fun _ => ⟨rfl, rfl, rfl⟩⟩
  · obtain ⟨m, hm, rfl⟩ := List.mem_map.1 hx
    exact (b m hm).2.1
  · obtain ⟨m, hm, rfl⟩ := List.mem_map.1 he
    have := b m hm
    exact ⟨this.2.1, this.2.2.1, this.2.2.2, Int.le_refl 0, Int.le_refl 0, Int.le_refl 0⟩
/-- A proposal: administrator, number, changes. -/
abbrev Prp := Int × Int × List Chg
def ofF (f : Prp) : Sm := ofP f.1 f.2.1 f.2.2
/-- The entries and the rule of a proposal are its own. -/
theorem ofP_own {ad nu : Int} {cs : List Chg} (h : JM.errS [] cs = 0) : (∀ e ∈ (ofP ad nu cs).W, e.2.2.2 = (ad, nu)) ∧ (rz (ofP ad nu cs) = false → (ofP ad nu cs).a = ad ∧ (ofP ad nu cs).n = nu) := by
  have hr : Rel ad nu (ofP ad nu cs) (rawP ad nu cs) := rel_ofP fun x hx h1 => by
    have h2 := ((errS_zero h).1 x hx).1
    obtain ⟨k, s, t, v, a, b, c⟩ := x
    dsimp only at h1 ⊢
    subst h1
    have := chg_zero h2
    omega
  refine ⟨fun e he => ?_, ?_⟩
  · have h1 := hr.wb e.1
    rw [show lk kW (ofP ad nu cs).W e.1 = some e from lk_mem kW hr.w he] at h1
    exact hr.wo e h1.1
  · have hg : ∀ (cs : List Chg) (s : Sm), (rz s = false → s.a = ad ∧ s.n = nu) → rz (cs.foldl (stp ad nu) s) = false → (cs.foldl (stp ad nu) s).a = ad ∧ (cs.foldl (stp ad nu) s).n = nu := by
      intro cs
      induction cs with
      | nil => intro s h; exact h
      | cons x cs ih =>
        intro s h
        refine ih _ ?_
        obtain ⟨k, sv, wt, vn, a, b, c⟩ := x
        simp only [stp]
        split
        · exact h
        · split
          · exact h
          · split
            · exact h
            · split
              · intro _; exact ⟨rfl, rfl⟩
              · exact h
    exact hg cs emp (fun h => by cases h)
/-- The genesis and the proposals of a valid configuration. -/
def allT (ms : List Mem) (k c f : Int) (fs : List Prp) : List Sm := ini ms k c f :: fs.map ofF
theorem cmp_all {ms : List Mem} {k c f : Int} {fs : List Prp} (hr : JM.errR k c f = 0) (hm : Val 0 ms) (h : ∀ x ∈ fs, JM.errP x.1 x.2.1 x.2.2 = 0) (hk : ∀ x ∈ fs, ∀ y ∈ fs, x.1 = y.1 → x.2.1 = y.2.1 → x = y) : Cmp (allT ms k c f fs) := by
  have hown : ∀ x ∈ fs, (∀ e ∈ (ofF x).W, e.2.2.2 = (x.1, x.2.1)) ∧ (rz (ofF x) = false → (ofF x).a = x.1 ∧ (ofF x).n = x.2.1) ∧ 201 ≤ x.1 ∧ OkS (ofF x) := by
    intro x hx
    obtain ⟨h1, h2, h3, h4⟩ := errP_zero (h x hx)
    have := ofP_own (ad := x.1) (nu := x.2.1) h4
    exact ⟨this.1, this.2, h1.1, okS_ofP (h x hx)⟩
  have hini : OkS (ini ms k c f) := okS_ini hr hm
  have hW0 : ∀ e ∈ (ini ms k c f).W, e.2.2 = (0, 0, 0) := by
    intro e he
    obtain ⟨m, _, rfl⟩ := List.mem_map.1 he
    rfl
  have hsame : ∀ {s : Sm}, OkS s → ∀ e ∈ s.W, ∀ e' ∈ s.W, e.1 = e'.1 → e = e' := by
    intro s hs e he e' he' h1
    have a := lk_mem kW hs.w he
    have b := lk_mem kW hs.w he'
    rw [show kW e = kW e' from h1, b] at a
    exact (Option.some.inj a).symm
  refine ⟨fun u hu v hv e he e' he' h1 h2 => ?_, fun u hu v hv z1 z2 ht => ?_⟩
  · rcases List.mem_cons.1 hu with hu | hu
    · rcases List.mem_cons.1 hv with hv | hv
      · subst hu; subst hv; exact hsame hini e he e' he' h1
      · obtain ⟨y, hy, hyv⟩ := List.mem_map.1 hv
        subst hyv; subst hu
        have a := hW0 e he
        have b := (hown y hy).1 e' he'
        have c := (hown y hy).2.2.1
        rw [a] at h2
        rw [← h2] at b
        injection b with b1 b2
        omega
    · obtain ⟨x, hx, hxu⟩ := List.mem_map.1 hu
      subst hxu
      rcases List.mem_cons.1 hv with hv | hv
      · subst hv
        have a := hW0 e' he'
        have b := (hown x hx).1 e he
        have c := (hown x hx).2.2.1
        rw [a] at h2
        rw [h2] at b
        injection b with b1 b2
        omega
      · obtain ⟨y, hy, hyv⟩ := List.mem_map.1 hv
        subst hyv
        have a := (hown x hx).1 e he
        have b := (hown y hy).1 e' he'
        rw [h2, b] at a
        injection a with a1 a2
        obtain rfl := hk x hx y hy a1.symm a2.symm
        exact hsame (hown x hx).2.2.2 e he e' he' h1
  · rcases List.mem_cons.1 hu with hu | hu
    · rcases List.mem_cons.1 hv with hv | hv
      · subst hu; subst hv; exact ⟨rfl, rfl, rfl⟩
      · obtain ⟨y, hy, hyv⟩ := List.mem_map.1 hv
        subst hyv; subst hu
        have b := (hown y hy).2.1 z2
        have c9 := (hown y hy).2.2.1
        unfold tri at ht
        injection ht with t1 t2
        injection t2 with t2 t3
        rw [b.1] at t2
        have : (ini ms k c f).a = 0 := rfl
        omega
    · obtain ⟨x, hx, hxu⟩ := List.mem_map.1 hu
      subst hxu
      have a := (hown x hx).2.1 z1
      unfold tri at ht
      injection ht with t1 t2
      injection t2 with t2 t3
      rcases List.mem_cons.1 hv with hv | hv
      · subst hv
        have c9 := (hown x hx).2.2.1
        rw [a.1] at t2
        have : (ini ms k c f).a = 0 := rfl
        omega
      · obtain ⟨y, hy, hyv⟩ := List.mem_map.1 hv
        subst hyv
        have b := (hown y hy).2.1 z2
        obtain rfl := hk x hx y hy (by rw [← a.1, t2, b.1]) (by rw [← a.2, t3, b.2])
        exact ⟨rfl, rfl, rfl⟩

/-- The program's way: halves. -/
def jall : Nat → List Prp → Sm
  | 0, _ => emp
  | _ + 1, [] => emp
  | _ + 1, [f] => ofF f
  | n + 1, f :: g :: r => join (jall n ((f :: g :: r).take ((r.length + 2) / 2))) (jall n ((f :: g :: r).drop ((r.length + 2) / 2)))
theorem sp_jall : ∀ (n : Nat) (fs : List Prp), fs.length ≤ n → (∀ x ∈ fs, JM.errP x.1 x.2.1 x.2.2 = 0) → Sp (fs.map ofF) (jall n fs)
  | 0, fs, h, _ => by
    obtain rfl : fs = [] := List.eq_nil_of_length_eq_zero (by omega)
    exact Sp.emp
  | n + 1, [], _, _ => Sp.emp
  | n + 1, [f], _, h => Sp.one (okS_ofP (h f (by simp)))
  | n + 1, f :: g :: r, hn, h => by
    have hl : (f :: g :: r).length = r.length + 2 := rfl
    have h1 := sp_jall n ((f :: g :: r).take ((r.length + 2) / 2)) (by rw [List.length_take]; omega) (fun x hx => h x (List.mem_of_mem_take hx))
    have h2 := sp_jall n ((f :: g :: r).drop ((r.length + 2) / 2)) (by rw [List.length_drop]; omega) (fun x hx => h x (List.mem_of_mem_drop hx))
    have h3 := h1.join h2
    rw [← List.map_append, List.take_append_drop] at h3
    exact h3
def summ (ms : List Mem) (k c f : Int) (fs : List Prp) : Sm := join (ini ms k c f) (jall fs.length fs)
def summR (ms : List Mem) (k c f : Int) (fs : List Prp) : Sm := fs.foldl (fun s x => join s (ofF x)) (ini ms k c f)
theorem sp_summ {ms : List Mem} {k c f : Int} {fs : List Prp} (hr : JM.errR k c f = 0) (hm : Val 0 ms) (h : ∀ x ∈ fs, JM.errP x.1 x.2.1 x.2.2 = 0) : Sp (allT ms k c f fs) (summ ms k c f fs) :=
  (Sp.one (okS_ini hr hm)).join (sp_jall _ fs (Nat.le_refl _) h)
theorem sp_summR {ms : List Mem} {k c f : Int} {fs : List Prp} (hr : JM.errR k c f = 0) (hm : Val 0 ms) (h : ∀ x ∈ fs, JM.errP x.1 x.2.1 x.2.2 = 0) : Sp (allT ms k c f fs) (summR ms k c f fs) := by
  have hg : ∀ (fs : List Prp) (T : List Sm) (s : Sm), (∀ x ∈ fs, JM.errP x.1 x.2.1 x.2.2 = 0) → Sp T s → Sp (T ++ fs.map ofF) (fs.foldl (fun s x => join s (ofF x)) s) := by
    intro fs
    induction fs with
    | nil => intro T s _ h; simpa using h
    | cons x fs ih =>
      intro T s hx h
      have h1 := ih (T ++ [ofF x]) _ (fun y hy => hx y (by simp [hy])) (h.join (Sp.one (okS_ofP (hx x (by simp)))))
      simpa using h1
  exact hg fs [ini ms k c f] _ h (Sp.one (okS_ini hr hm))
/-- The two ways are one. -/
theorem summ_eq {ms : List Mem} {k c f : Int} {fs : List Prp} (hr : JM.errR k c f = 0) (hm : Val 0 ms) (h : ∀ x ∈ fs, JM.errP x.1 x.2.1 x.2.2 = 0) (hk : ∀ x ∈ fs, ∀ y ∈ fs, x.1 = y.1 → x.2.1 = y.2.1 → x = y) : summ ms k c f fs = summR ms k c f fs :=
  (sp_summ hr hm h).uniq (cmp_all hr hm h hk) (sp_summR hr hm h)

end Go.Proofs.YthfpafnljnnndaaGreat.MM
