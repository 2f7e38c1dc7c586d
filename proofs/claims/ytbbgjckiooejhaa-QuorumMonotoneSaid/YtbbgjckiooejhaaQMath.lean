/-
  Quorum rules and quorum systems, plain: errors, the quorum test over a predicate, its monotony, masks of servers, minimal quorums and their order. No Go. No conditions beyond those that each lemma names.
-/
namespace Go.Proofs.Ytbbgjckiooejhaa.QM

/-- A member: its server, its weight. -/
abbrev Mem := Int × Int

/-! errors -/
def errR (k c f : Int) : Int :=
  if k < 1 ∨ 4 < k then 10
  else if (k = 3 ∧ (c < 1 ∨ 12 < c)) ∨ (k ≠ 3 ∧ c ≠ 0) then 9
  else if (k = 4 ∧ (f < 0 ∨ 12 < f)) ∨ (k ≠ 4 ∧ f ≠ 0) then 9 else 0
def off (m : Mem) : Bool := decide (m.1 < 1 ∨ 12 < m.1 ∨ m.2 < 1 ∨ 9 < m.2)
def errM : Int → List Mem → Int
  | _, [] => 0
  | p, m :: v => if off m = true then 9 else if m.1 ≤ p then 7 else errM m.1 v
def errV (k c f : Int) (ms : List Mem) : Int := if errR k c f = 0 then errM 0 ms else errR k c f
/-- Valid members: servers ascending above p. -/
def Val : Int → List Mem → Prop
  | _, [] => True
  | p, m :: v => p < m.1 ∧ 1 ≤ m.1 ∧ m.1 ≤ 12 ∧ 1 ≤ m.2 ∧ m.2 ≤ 9 ∧ Val m.1 v
theorem errM_val {p : Int} {ms : List Mem} : errM p ms = 0 ↔ Val p ms := by
  induction ms generalizing p with
  | nil => simp [errM, Val]
  | cons m v ih =>
    simp only [errM, Val]
    by_cases h : m.1 < 1 ∨ 12 < m.1 ∨ m.2 < 1 ∨ 9 < m.2
    · rw [if_pos (show off m = true from decide_eq_true h)]
      constructor
      · intro h; omega
      · intro h; omega
    · rw [if_neg (show ¬ off m = true from fun h3 => h (of_decide_eq_true h3))]
      by_cases h2 : m.1 ≤ p
      · rw [if_pos h2]
        constructor
        · intro h; omega
        · intro h; omega
      · rw [if_neg h2, ih]
        constructor
        · intro h3; exact ⟨by omega, by omega, by omega, by omega, by omega, h3⟩
        · intro h3; exact h3.2.2.2.2.2
theorem errV_zero {k c f : Int} {ms : List Mem} : errV k c f ms = 0 ↔ errR k c f = 0 ∧ Val 0 ms := by
  unfold errV
  by_cases h : errR k c f = 0
  · rw [if_pos h, errM_val]; simp [h]
  · rw [if_neg h]; simp [h]
theorem errR_zero {k c f : Int} (h : errR k c f = 0) : (k = 1 ∧ c = 0 ∧ f = 0) ∨ (k = 2 ∧ c = 0 ∧ f = 0) ∨ (k = 3 ∧ 1 ≤ c ∧ c ≤ 12 ∧ f = 0) ∨ (k = 4 ∧ c = 0 ∧ 0 ≤ f ∧ f ≤ 12) := by
  unfold errR at h
  split at h
  · omega
  · split at h
    · omega
    · split at h
      · omega
      · omega

theorem Val.mono {p q : Int} {ms : List Mem} (h : Val p ms) (hq : q ≤ p) : Val q ms := by
  cases ms with
  | nil => trivial
  | cons m v => obtain ⟨h1, h2⟩ := h; exact ⟨by omega, h2⟩
theorem Val.mem {p : Int} {ms : List Mem} (h : Val p ms) : ∀ m ∈ ms, p < m.1 ∧ 1 ≤ m.1 ∧ m.1 ≤ 12 ∧ 1 ≤ m.2 ∧ m.2 ≤ 9 := by
  induction ms generalizing p with
  | nil => intro m hm; cases hm
  | cons a v ih =>
    intro m hm
    obtain ⟨h1, h2, h3, h4, h5, h6⟩ := h
    rcases List.mem_cons.1 hm with rfl | hm
    · exact ⟨h1, h2, h3, h4, h5⟩
    · have := ih h6 m hm
      exact ⟨by omega, this.2⟩
theorem Val.asc {p : Int} {ms : List Mem} (h : Val p ms) : (ms.map (·.1)).Pairwise (· < ·) := by
  induction ms generalizing p with
  | nil => exact List.Pairwise.nil
  | cons a v ih =>
    obtain ⟨h1, h2, h3, h4, h5, h6⟩ := h
    refine List.pairwise_cons.2 ⟨fun x hx => ?_, ih h6⟩
    obtain ⟨m, hm, rfl⟩ := List.mem_map.1 hx
    exact (h6.mem m hm).1
theorem Val.length {p : Int} {ms : List Mem} (h : Val p ms) (hp : 0 ≤ p) (hp2 : p ≤ 12) : (ms.length : Int) ≤ 12 - p := by
  induction ms generalizing p with
  | nil => simp; omega
  | cons a v ih =>
    obtain ⟨h1, h2, h3, h4, h5, h6⟩ := h
    have := ih h6 (by omega) h3
    simp only [List.length_cons]; omega

/-! the quorum test, over a predicate on servers -/
def cnt (p : Int → Bool) (ms : List Mem) : Nat := ms.countP fun m => p m.1
def wt (p : Int → Bool) : List Mem → Int
  | [] => 0
  | m :: v => (if p m.1 = true then m.2 else 0) + wt p v
/-- The rows of c members each (n: at least the number of members). -/
def chunks (c : Nat) : Nat → List Mem → List (List Mem)
  | 0, _ => []
  | _ + 1, [] => []
  | n + 1, m :: v => (m :: v).take c :: chunks c n ((m :: v).drop c)
def rows (c : Nat) (ms : List Mem) : List (List Mem) := chunks c ms.length ms
def grid (c : Nat) (p : Int → Bool) (ms : List Mem) : Bool := (rows c ms).any (fun r => r.all fun m => p m.1) && (rows c ms).all (fun r => r.any fun m => p m.1)
def isQ (k c f : Int) (ms : List Mem) (p : Int → Bool) : Bool :=
  if k = 1 then decide (ms.length < 2 * cnt p ms)
  else if k = 2 then decide (wt (fun _ => true) ms < 2 * wt p ms)
  else if k = 3 then grid c.toNat p ms
  else if k = 4 then decide (((ms.length : Int) + f + 2) / 2 ≤ cnt p ms) else false

theorem cnt_cons (p : Int → Bool) (m : Mem) (v : List Mem) : cnt p (m :: v) = cnt p v + if p m.1 = true then 1 else 0 := by simp [cnt, List.countP_cons]
theorem cnt_le (p : Int → Bool) (ms : List Mem) : cnt p ms ≤ ms.length := List.countP_le_length
theorem chunks_more (c : Nat) (hc : 1 ≤ c) : ∀ (n m : Nat) (v : List Mem), v.length ≤ n → v.length ≤ m → chunks c n v = chunks c m v
  | 0, 0, _, _, _ => rfl
  | 0, m + 1, v, h, _ => by
    obtain rfl : v = [] := List.eq_nil_of_length_eq_zero (by omega)
    rfl
  | n + 1, 0, v, _, h => by
    obtain rfl : v = [] := List.eq_nil_of_length_eq_zero (by omega)
    rfl
  | n + 1, m + 1, [], _, _ => rfl
  | n + 1, m + 1, a :: v, h1, h2 => by
    simp only [chunks]
    congr 1
    refine chunks_more c hc n m _ ?_ ?_ <;> (rw [List.length_drop]; simp only [List.length_cons] at *; omega)
theorem rows_nil (c : Nat) : rows c [] = [] := rfl
theorem rows_cons (c : Nat) (hc : 1 ≤ c) {v : List Mem} (h : v ≠ []) : rows c v = v.take c :: rows c (v.drop c) := by
  cases v with
  | nil => exact absurd rfl h
  | cons m v =>
    unfold rows
    rw [show (m :: v).length = v.length + 1 from rfl]
    simp only [chunks]
    congr 1
    refine chunks_more c hc _ _ _ ?_ (Nat.le_refl _)
    rw [List.length_drop]; simp only [List.length_cons]; omega
theorem rows_mem (c : Nat) : ∀ (n : Nat) (v : List Mem), ∀ r ∈ chunks c n v, ∀ m ∈ r, m ∈ v
  | 0, _, r, hr, _, _ => by cases hr
  | _ + 1, [], r, hr, _, _ => by cases hr
  | n + 1, a :: v, r, hr, m, hm => by
    simp only [chunks] at hr
    rcases List.mem_cons.1 hr with rfl | hr
    · exact List.mem_of_mem_take hm
    · exact List.mem_of_mem_drop (rows_mem c n _ r hr m hm)

theorem cnt_congr {p q : Int → Bool} {ms : List Mem} (h : ∀ m ∈ ms, p m.1 = q m.1) : cnt p ms = cnt q ms := by
  unfold cnt
  exact List.countP_congr fun m hm => by rw [h m hm]
theorem wt_congr {p q : Int → Bool} {ms : List Mem} (h : ∀ m ∈ ms, p m.1 = q m.1) : wt p ms = wt q ms := by
  induction ms with
  | nil => rfl
  | cons m v ih => simp only [wt]; rw [h m (by simp), ih fun m hm => h m (by simp [hm])]
theorem all_congr {α : Type} {f g : α → Bool} : ∀ {l : List α}, (∀ x ∈ l, f x = g x) → l.all f = l.all g
  | [], _ => rfl
  | x :: l, h => by simp only [List.all_cons]; rw [h x (by simp), all_congr fun x hx => h x (by simp [hx])]
theorem any_congr {α : Type} {f g : α → Bool} : ∀ {l : List α}, (∀ x ∈ l, f x = g x) → l.any f = l.any g
  | [], _ => rfl
  | x :: l, h => by simp only [List.any_cons]; rw [h x (by simp), any_congr fun x hx => h x (by simp [hx])]
theorem grid_congr {p q : Int → Bool} {ms : List Mem} (c : Nat) (h : ∀ m ∈ ms, p m.1 = q m.1) : grid c p ms = grid c q ms := by
  unfold grid
  congr 1
  · exact any_congr fun r hr => all_congr fun m hm => h m (rows_mem c _ _ r hr m hm)
  · exact all_congr fun r hr => any_congr fun m hm => h m (rows_mem c _ _ r hr m hm)
theorem isQ_congr {k c f : Int} {p q : Int → Bool} {ms : List Mem} (h : ∀ m ∈ ms, p m.1 = q m.1) : isQ k c f ms p = isQ k c f ms q := by
  unfold isQ
  rw [cnt_congr h, wt_congr h, grid_congr _ h]

theorem cnt_mono {p q : Int → Bool} {ms : List Mem} (h : ∀ m ∈ ms, p m.1 = true → q m.1 = true) : cnt p ms ≤ cnt q ms := by
  unfold cnt
  exact List.countP_mono_left h
theorem wt_mono {p q : Int → Bool} {ms : List Mem} (hw : ∀ m ∈ ms, 0 ≤ m.2) (h : ∀ m ∈ ms, p m.1 = true → q m.1 = true) : wt p ms ≤ wt q ms := by
  induction ms with
  | nil => exact Int.le_refl _
  | cons m v ih =>
    simp only [wt]
    have h1 := ih (fun m hm => hw m (by simp [hm])) fun m hm => h m (by simp [hm])
    have h2 := h m (by simp)
    have h3 := hw m (by simp)
    cases hp : p m.1 with
    | true => rw [h2 hp]; simp; omega
    | false => simp; split <;> omega
theorem grid_mono {p q : Int → Bool} {ms : List Mem} (c : Nat) (h : ∀ m ∈ ms, p m.1 = true → q m.1 = true) (hg : grid c p ms = true) : grid c q ms = true := by
  unfold grid at *
  rw [Bool.and_eq_true, List.any_eq_true, List.all_eq_true] at *
  obtain ⟨⟨r, hr, h1⟩, h2⟩ := hg
  refine ⟨⟨r, hr, ?_⟩, fun r hr => ?_⟩
  · rw [List.all_eq_true] at *
    exact fun m hm => h m (rows_mem c _ _ r hr m hm) (h1 m hm)
  · have := h2 r hr
    rw [List.any_eq_true] at *
    obtain ⟨m, hm, h3⟩ := this
    exact ⟨m, hm, h m (rows_mem c _ _ r hr m hm) h3⟩
theorem isQ_mono {k c f : Int} {p q : Int → Bool} {ms : List Mem} (hv : Val 0 ms) (h : ∀ m ∈ ms, p m.1 = true → q m.1 = true) (hq : isQ k c f ms p = true) : isQ k c f ms q = true := by
  have h1 := cnt_mono h
  have h2 := wt_mono (fun m hm => by have := hv.mem m hm; omega) h
  unfold isQ at *
  split
  · rename_i hk; rw [if_pos hk] at hq; simp at hq ⊢; omega
  · rename_i hk; rw [if_neg hk] at hq
    split
    · rename_i hk; rw [if_pos hk] at hq; simp at hq ⊢; omega
    · rename_i hk; rw [if_neg hk] at hq
      split
      · rename_i hk; rw [if_pos hk] at hq; exact grid_mono _ h hq
      · rename_i hk; rw [if_neg hk] at hq
        split
        · rename_i hk; rw [if_pos hk] at hq; simp at hq ⊢; omega
        · rename_i hk; rw [if_neg hk] at hq; cases hq
theorem wt_nonneg {p : Int → Bool} {ms : List Mem} (hw : ∀ m ∈ ms, 0 ≤ m.2) : 0 ≤ wt p ms := by
  induction ms with
  | nil => exact Int.le_refl _
  | cons m v ih =>
    simp only [wt]
    have h1 := ih fun m hm => hw m (by simp [hm])
    have h3 := hw m (by simp)
    split <;> omega
theorem wt_le {p : Int → Bool} {ms : List Mem} (hw : ∀ m ∈ ms, 0 ≤ m.2 ∧ m.2 ≤ 9) : wt p ms ≤ 9 * cnt p ms := by
  induction ms with
  | nil => simp [wt, cnt]
  | cons m v ih =>
    rw [cnt_cons]
    simp only [wt]
    have h1 := ih fun m hm => hw m (by simp [hm])
    have h3 := hw m (by simp)
    split <;> omega
theorem wt_none (ms : List Mem) : wt (fun _ => false) ms = 0 := by
  induction ms with
  | nil => rfl
  | cons m v ih => simp [wt, ih]
/-- The empty set is no quorum. -/
theorem isQ_none {k c f : Int} {ms : List Mem} (hr : errR k c f = 0) (hv : Val 0 ms) : isQ k c f ms (fun _ => false) = false := by
  have h1 : cnt (fun _ => false) ms = 0 := by simp [cnt]
  have h2 := wt_none ms
  have h3 := wt_nonneg (p := fun _ => true) (ms := ms) (fun m hm => by have := hv.mem m hm; omega)
  unfold isQ
  rw [h1, h2]
  split
  · simp
  · split
    · simp; omega
    · split
      · unfold grid
        rw [Bool.and_eq_false_iff]
        cases hm : rows c.toNat ms with
        | nil => left; rfl
        | cons r rs => right; simp
      · split
        · rename_i hk
          rcases errR_zero hr with h | h | h | h <;> simp <;> omega
        · rfl
theorem isQ_nil {k c f : Int} (hr : errR k c f = 0) (p : Int → Bool) : isQ k c f [] p = false := by
  rw [isQ_congr (q := fun _ => false) (fun m hm => by cases hm)]
  exact isQ_none hr trivial

theorem cnt_and (p q : Int → Bool) (ms : List Mem) : cnt p ms + cnt q ms ≤ ms.length + cnt (fun x => p x && q x) ms := by
  induction ms with
  | nil => simp [cnt]
  | cons m v ih =>
    rw [cnt_cons, cnt_cons, cnt_cons]
    simp only [List.length_cons]
    cases p m.1 <;> cases q m.1 <;> simp <;> omega
theorem wt_and (p q : Int → Bool) (ms : List Mem) (hw : ∀ m ∈ ms, 0 ≤ m.2) : wt p ms + wt q ms ≤ wt (fun _ => true) ms + wt (fun x => p x && q x) ms := by
  induction ms with
  | nil => simp [wt]
  | cons m v ih =>
    have h1 := ih fun m hm => hw m (by simp [hm])
    have h3 := hw m (by simp)
    unfold wt
    generalize hp : p m.1 = b1
    generalize hq : q m.1 = b2
    cases b1 <;> cases b2 <;> simp <;> omega
theorem cnt_pos {p : Int → Bool} {ms : List Mem} {m : Mem} (hm : m ∈ ms) (hp : p m.1 = true) : 0 < cnt p ms := by
  unfold cnt
  exact List.countP_pos_iff.2 ⟨m, hm, hp⟩
/-- P4.6: two quorums have more in common than the rule masks. -/
theorem meet {k c f : Int} {p q : Int → Bool} {ms : List Mem} (hr : errR k c f = 0) (hv : Val 0 ms) (hp : isQ k c f ms p = true) (hq : isQ k c f ms q = true) : f < cnt (fun x => p x && q x) ms := by
  have h1 := cnt_and p q ms
  have h2 := wt_and p q ms (fun m hm => by have := hv.mem m hm; omega)
  have h3 := wt_le (p := fun x => p x && q x) (ms := ms) (fun m hm => by have := hv.mem m hm; omega)
  unfold isQ at hp hq
  rcases errR_zero hr with ⟨rfl, rfl, rfl⟩ | ⟨rfl, rfl, rfl⟩ | ⟨rfl, h4, h5, rfl⟩ | ⟨rfl, rfl, h4, h5⟩
  · simp at hp hq; omega
  · simp at hp hq; omega
  · rw [if_neg (by decide), if_neg (by decide), if_pos rfl] at hp hq
    unfold grid at hp hq
    rw [Bool.and_eq_true, List.any_eq_true, List.all_eq_true] at hp hq
    obtain ⟨⟨r, hr, h6⟩, _⟩ := hp
    have h7 := hq.2 r hr
    rw [List.any_eq_true] at h7
    obtain ⟨m, hm, h8⟩ := h7
    have h9 := List.all_eq_true.1 h6 m hm
    have := cnt_pos (p := fun x => p x && q x) (rows_mem _ _ _ r hr m hm) (by simp [h8, h9])
    omega
  · simp at hp hq; omega
theorem wt_equal {w : Int} {p : Int → Bool} {ms : List Mem} (h : ∀ m ∈ ms, m.2 = w) : wt p ms = w * cnt p ms := by
  induction ms with
  | nil => simp [wt, cnt]
  | cons m v ih =>
    rw [cnt_cons]
    simp only [wt]
    rw [ih fun m hm => h m (by simp [hm]), h m (by simp)]
    cases p m.1 with
    | true => simp [Int.mul_add]; omega
    | false => simp
theorem cnt_all (ms : List Mem) : cnt (fun _ => true) ms = ms.length := by simp [cnt]
/-- With equal weights the rules have the same quorums. -/
theorem equal_weights {w : Int} (hw : 1 ≤ w) (hw9 : w ≤ 9) {p : Int → Bool} {ms : List Mem} (h : ∀ m ∈ ms, m.2 = w) : isQ 2 0 0 ms p = isQ 1 0 0 ms p ∧ isQ 4 0 0 ms p = isQ 1 0 0 ms p := by
  have h1 := wt_equal (p := p) h
  have h2 := wt_equal (p := fun _ => true) h
  rw [cnt_all] at h2
  unfold isQ
  rw [h1, h2]
  constructor
  · simp only [show ¬ (2 : Int) = 1 by decide, if_true, if_false]
    rw [decide_eq_decide]
    have e : w * (ms.length : Int) < 2 * (w * (cnt p ms : Int)) ↔ w * (ms.length : Int) < w * (2 * (cnt p ms : Int)) := by
      rw [show 2 * (w * (cnt p ms : Int)) = w * (2 * (cnt p ms : Int)) by rw [← Int.mul_assoc, ← Int.mul_assoc, Int.mul_comm 2 w]]
    rw [e, Int.mul_lt_mul_left (by omega)]
    omega
  · simp only [show ¬ (4 : Int) = 1 by decide, show ¬ (4 : Int) = 2 by decide, show ¬ (4 : Int) = 3 by decide, if_true, if_false]
    rw [decide_eq_decide]
    omega

/-! strictly sorted lists -/
theorem sorted_ext {α : Type} {r : α → α → Prop} (hi : ∀ x, ¬ r x x) (ht : ∀ x y z, r x y → r y z → r x z) : ∀ {a b : List α}, a.Pairwise r → b.Pairwise r → (∀ x, x ∈ a ↔ x ∈ b) → a = b
  | [], [], _, _, _ => rfl
  | [], y :: b, _, _, h => by have := (h y).2 (by simp); cases this
  | x :: a, [], _, _, h => by have := (h x).1 (by simp); cases this
  | x :: a, y :: b, ha, hb, h => by
    obtain ⟨h1, h2⟩ := List.pairwise_cons.1 ha
    obtain ⟨h3, h4⟩ := List.pairwise_cons.1 hb
    have e : x = y := by
      rcases List.mem_cons.1 ((h x).1 (by simp)) with e | hx
      · exact e
      · rcases List.mem_cons.1 ((h y).2 (by simp)) with e | hy
        · exact e.symm
        · exact absurd (ht _ _ _ (h1 y hy) (h3 x hx)) (hi x)
    subst e
    congr 1
    refine sorted_ext hi ht h2 h4 fun z => ⟨fun hz => ?_, fun hz => ?_⟩
    · rcases List.mem_cons.1 ((h z).1 (by simp [hz])) with rfl | h5
      · exact absurd (h1 z hz) (hi z)
      · exact h5
    · rcases List.mem_cons.1 ((h z).2 (by simp [hz])) with rfl | h5
      · exact absurd (h3 z hz) (hi z)
      · exact h5
def Asc (q : List Int) : Prop := q.Pairwise (· < ·)
theorem asc_ext {a b : List Int} (ha : Asc a) (hb : Asc b) (h : ∀ x, x ∈ a ↔ x ∈ b) : a = b := sorted_ext (r := fun (x y : Int) => x < y) (fun x => Int.lt_irrefl x) (fun _ _ _ => Int.lt_trans) ha hb h
/-- The lexicographic order; a proper prefix comes first. -/
def lex : List Int → List Int → Bool
  | _, [] => false
  | [], _ :: _ => true
  | x :: a, y :: b => if x = y then lex a b else decide (x < y)
theorem lex_irrefl : ∀ a : List Int, lex a a = false
  | [] => rfl
  | x :: a => by simp [lex, lex_irrefl a]
theorem lex_trans : ∀ a b c : List Int, lex a b = true → lex b c = true → lex a c = true
  | _, _, [], _, h => by simp [lex] at h
  | _, [], _ :: _, h, _ => by simp [lex] at h
  | [], _ :: _, _ :: _, _, _ => rfl
  | x :: a, y :: b, z :: c, h1, h2 => by
    simp only [lex] at *
    by_cases e1 : x = y
    · subst e1
      rw [if_pos rfl] at h1
      by_cases e2 : x = z
      · subst e2; rw [if_pos rfl] at h2 ⊢; exact lex_trans a b c h1 h2
      · rw [if_neg e2] at h2 ⊢; exact h2
    · rw [if_neg e1] at h1
      have h1 := of_decide_eq_true h1
      by_cases e2 : y = z
      · subst e2; rw [if_neg e1]; exact decide_eq_true h1
      · rw [if_neg e2] at h2
        have h2 := of_decide_eq_true h2
        rw [if_neg (by omega)]; exact decide_eq_true (by omega)
theorem lex_total : ∀ a b : List Int, lex a b = false → lex b a = false → a = b
  | [], [], _, _ => rfl
  | [], _ :: _, h, _ => by simp [lex] at h
  | _ :: _, [], _, h => by simp [lex] at h
  | x :: a, y :: b, h1, h2 => by
    simp only [lex] at *
    by_cases e1 : x = y
    · subst e1
      rw [if_pos rfl] at h1 h2
      rw [lex_total a b h1 h2]
    · rw [if_neg e1] at h1
      rw [if_neg (fun h => e1 h.symm)] at h2
      have h1 := of_decide_eq_false h1
      have h2 := of_decide_eq_false h2
      omega
theorem lex_ntrans (a b c : List Int) (h1 : lex a b = false) (h2 : lex b c = false) : lex a c = false := by
  cases h : lex a c with
  | false => rfl
  | true =>
    cases h3 : lex b a with
    | false =>
      have e := lex_total a b h1 h3
      subst e
      rw [h] at h2; cases h2
    | true =>
      have := lex_trans b a c h3 h
      rw [this] at h2; cases h2
theorem lex_asymm {a b : List Int} (h : lex a b = true) : lex b a = false := by
  cases h2 : lex b a with
  | false => rfl
  | true => have := lex_trans a b a h h2; rw [lex_irrefl] at this; cases this

/-! minimal quorums -/
/-- q is a minimal quorum: ascending, of members, a quorum, and no quorum with an element left out. -/
def IsMin (Q : (Int → Bool) → Bool) (ms : List Mem) (q : List Int) : Prop :=
  Asc q ∧ (∀ x ∈ q, ∃ m ∈ ms, m.1 = x) ∧ Q (fun y => decide (y ∈ q)) = true ∧ ∀ x ∈ q, Q (fun y => decide (y ∈ q) && decide (y ≠ x)) = false
/-- The list of all minimal quorums, in order. -/
def MinL (Q : (Int → Bool) → Bool) (ms : List Mem) (l : List (List Int)) : Prop := l.Pairwise (fun a b => lex a b = true) ∧ ∀ q, q ∈ l ↔ IsMin Q ms q
theorem MinL.unique {Q : (Int → Bool) → Bool} {ms : List Mem} {a b : List (List Int)} (ha : MinL Q ms a) (hb : MinL Q ms b) : a = b :=
  sorted_ext (r := fun a b => lex a b = true) (fun x h => by rw [lex_irrefl] at h; cases h) (fun x y z => lex_trans x y z) ha.1 hb.1 fun q => (ha.2 q).trans (hb.2 q).symm
theorem asc_filter {l : List Int} (h : Asc l) (p : Int → Bool) : Asc (l.filter p) := List.Pairwise.filter p h
/-- Every quorum contains a minimal one. -/
theorem has_min {k c f : Int} {ms : List Mem} (hv : Val 0 ms) : ∀ (n : Nat) (q : List Int), q.length ≤ n → Asc q → (∀ x ∈ q, ∃ m ∈ ms, m.1 = x) → isQ k c f ms (fun y => decide (y ∈ q)) = true → ∃ r, IsMin (isQ k c f ms) ms r ∧ ∀ x ∈ r, x ∈ q
  | 0, q, hn, ha, hm, hq => ⟨q, ⟨ha, hm, hq, by obtain rfl : q = [] := List.eq_nil_of_length_eq_zero (by omega); intro x hx; cases hx⟩, fun _ h => h⟩
  | n + 1, q, hn, ha, hm, hq => by
    by_cases h : ∀ x ∈ q, isQ k c f ms (fun y => decide (y ∈ q) && decide (y ≠ x)) = false
    · exact ⟨q, ⟨ha, hm, hq, h⟩, fun _ h => h⟩
    · have ⟨x, hx, hxq⟩ : ∃ x, x ∈ q ∧ isQ k c f ms (fun y => decide (y ∈ q) && decide (y ≠ x)) = true := by
        apply Classical.byContradiction
        intro hne
        refine h fun x hx => ?_
        cases he : isQ k c f ms (fun y => decide (y ∈ q) && decide (y ≠ x)) with
        | false => rfl
        | true => exact absurd ⟨x, hx, he⟩ hne
      have hlen : (q.filter fun y => decide (y ≠ x)).length < q.length := by
        have := List.length_filter_lt_length_iff_exists (l := q) (p := fun y => decide (y ≠ x))
        exact this.2 ⟨x, hx, by simp⟩
      have e : isQ k c f ms (fun y => decide (y ∈ q.filter fun y => decide (y ≠ x))) = true := by
        rw [← hxq]
        refine isQ_congr fun m _ => ?_
        simp [List.mem_filter]
      obtain ⟨r, hr, hs⟩ := has_min hv n _ (by omega) (asc_filter ha _) (fun y hy => hm y (List.mem_filter.1 hy).1) e
      exact ⟨r, hr, fun y hy => (List.mem_filter.1 (hs y hy)).1⟩
/-- A predicate is a quorum just where it holds of a minimal one. -/
theorem found_iff {k c f : Int} {ms : List Mem} (hv : Val 0 ms) {l : List (List Int)} (hl : MinL (isQ k c f ms) ms l) (p : Int → Bool) : l.any (fun r => r.all p) = isQ k c f ms p := by
  cases h : isQ k c f ms p with
  | true =>
    rw [List.any_eq_true]
    have hs : isQ k c f ms (fun y => decide (y ∈ (ms.map (·.1)).filter p)) = true := by
      rw [← h]
      refine isQ_congr fun m hm => ?_
      have : m.1 ∈ ms.map (·.1) := List.mem_map.2 ⟨m, hm, rfl⟩
      cases hp : p m.1 <;> simp [hp]
      exact ⟨_, hm⟩
    obtain ⟨r, hr, hs⟩ := has_min hv _ _ (Nat.le_refl _) (asc_filter hv.asc p) (fun x hx => by
      obtain ⟨m, hm, rfl⟩ := List.mem_map.1 (List.mem_filter.1 hx).1
      exact ⟨m, hm, rfl⟩) hs
    exact ⟨r, (hl.2 r).2 hr, List.all_eq_true.2 fun x hx => (List.mem_filter.1 (hs x hx)).2⟩
  | false =>
    rw [Bool.eq_false_iff]
    intro hne
    rw [List.any_eq_true] at hne
    obtain ⟨r, hr, hp⟩ := hne
    have := isQ_mono (q := p) hv (fun m _ hm => List.all_eq_true.1 hp _ (of_decide_eq_true hm)) ((hl.2 r).1 hr).2.2.1
    rw [h] at this; cases this

/-! masks of servers -/
/-- The server x is in the mask s. -/
def tb (s : Nat) (x : Int) : Bool := s.testBit x.toNat
def isSrv (x : Int) : Bool := decide (1 ≤ x ∧ x ≤ 12)
def addS (s : Nat) (x : Int) : Nat := if isSrv x = true then s ||| 2 ^ x.toNat else s
def setL (l : List Int) : Nat := l.foldl addS 0
def addM (s : Nat) (m : Mem) : Nat := s ||| 2 ^ m.1.toNat
def memL (ms : List Mem) : Nat := ms.foldl addM 0
/-- What s has and t has not. -/
def dif (s t : Nat) : Nat := s &&& (65535 - t)
theorem tb_or (s : Nat) (i j : Nat) : (s ||| 2 ^ i).testBit j = (s.testBit j || decide (i = j)) := by rw [Nat.testBit_or, Nat.testBit_two_pow]
theorem tb_dif {s t : Nat} (hs : s < 65536) (ht : t < 65536) (i : Nat) : (dif s t).testBit i = (s.testBit i && !t.testBit i) := by
  unfold dif
  rw [Nat.testBit_and]
  have h := Nat.testBit_two_pow_sub_succ (x := t) (n := 16) ht i
  rw [show 2 ^ 16 - (t + 1) = 65535 - t by omega] at h
  rw [h]
  by_cases hi : i < 16
  · simp [hi]
  · have : s.testBit i = false := Nat.testBit_lt_two_pow (Nat.lt_of_lt_of_le hs (by rw [show (65536 : Nat) = 2 ^ 16 from rfl]; exact Nat.pow_le_pow_right (by decide) (by omega)))
    simp [this]
theorem dif_lt {s t : Nat} (hs : s < 65536) : dif s t < 65536 := Nat.lt_of_le_of_lt Nat.and_le_left hs
theorem lt_of_bits {s n : Nat} (h : ∀ i, s.testBit i = true → i < n) : s < 2 ^ n := by
  apply Nat.lt_pow_two_of_testBit
  intro i hi
  cases hb : s.testBit i with
  | false => rfl
  | true => have := h i hb; omega
theorem foldS_bit (l : List Int) : ∀ (s i : Nat), (l.foldl addS s).testBit i = true ↔ s.testBit i = true ∨ ∃ x ∈ l, isSrv x = true ∧ x.toNat = i := by
  induction l with
  | nil => intro s i; simp
  | cons a l ih =>
    intro s i
    rw [List.foldl_cons, ih]
    unfold addS
    by_cases h : isSrv a = true
    · rw [if_pos h, tb_or]
      simp [h]
      constructor
      · rintro ((h1 | h1) | h1)
        · exact .inl h1
        · exact .inr (.inl h1)
        · exact .inr (.inr h1)
      · rintro (h1 | h1 | h1)
        · exact .inl (.inl h1)
        · exact .inl (.inr h1)
        · exact .inr h1
    · rw [if_neg h]
      simp [h]
theorem setL_bit (l : List Int) (x : Int) (hx : isSrv x = true) : tb (setL l) x = decide (x ∈ l) := by
  have h := foldS_bit l 0 x.toNat
  have hx2 := of_decide_eq_true hx
  rw [Bool.eq_iff_iff]
  unfold tb setL
  rw [h]
  simp
  constructor
  · rintro ⟨y, hy, h1, h2⟩
    have h1 := of_decide_eq_true h1
    have : y = x := by omega
    subst this; exact hy
  · intro h; exact ⟨x, h, hx, rfl⟩
theorem setL_lt (l : List Int) : setL l < 8192 := by
  refine lt_of_bits (n := 13) fun i hi => ?_
  rcases (foldS_bit l 0 i).1 hi with h | ⟨x, _, h1, h2⟩
  · simp at h
  · have h1 := of_decide_eq_true h1
    omega
theorem foldM_bit (l : List Mem) : ∀ (s i : Nat), (l.foldl addM s).testBit i = true ↔ s.testBit i = true ∨ ∃ m ∈ l, m.1.toNat = i := by
  induction l with
  | nil => intro s i; simp
  | cons a l ih =>
    intro s i
    rw [List.foldl_cons, ih]
    unfold addM
    rw [tb_or]
    simp
    constructor
    · rintro ((h1 | h1) | h1)
      · exact .inl h1
      · exact .inr (.inl h1)
      · exact .inr (.inr h1)
    · rintro (h1 | h1 | h1)
      · exact .inl (.inl h1)
      · exact .inl (.inr h1)
      · exact .inr h1
theorem memL_bit {ms : List Mem} (i : Nat) : (memL ms).testBit i = true ↔ ∃ m ∈ ms, m.1.toNat = i := by
  unfold memL
  rw [foldM_bit]; simp
theorem memL_lt {p : Int} {ms : List Mem} (hv : Val p ms) : memL ms < 8192 := by
  refine lt_of_bits (n := 13) fun i hi => ?_
  obtain ⟨m, hm, rfl⟩ := (memL_bit i).1 hi
  have := hv.mem m hm
  omega
/-- The mask s has members only. -/
def Sub (ms : List Mem) (s : Nat) : Prop := ∀ i, s.testBit i = true → ∃ m ∈ ms, m.1.toNat = i
theorem Sub.lt {p : Int} {ms : List Mem} (hv : Val p ms) {s : Nat} (h : Sub ms s) : s < 8192 := by
  refine lt_of_bits (n := 13) fun i hi => ?_
  obtain ⟨m, hm, rfl⟩ := h i hi
  have := hv.mem m hm
  omega
theorem sub_mem (ms : List Mem) : Sub ms (memL ms) := fun i hi => (memL_bit i).1 hi
theorem sub_and {ms : List Mem} {s t : Nat} (h : Sub ms t) : Sub ms (s &&& t) := fun i hi => by
  rw [Nat.testBit_and, Bool.and_eq_true] at hi
  exact h i hi.2
theorem sub_dif {ms : List Mem} {s t : Nat} (h : Sub ms s) : Sub ms (dif s t) := fun i hi => by
  unfold dif at hi
  rw [Nat.testBit_and, Bool.and_eq_true] at hi
  exact h i hi.1

/-- The servers of a mask below n + 1, ascending. -/
def sv (s n : Nat) : List Int := ((List.range n).filter fun i => s.testBit (i + 1)).map fun i : Nat => (i : Int) + 1
def srv (s : Nat) : List Int := sv s 12
theorem sv_succ (s n : Nat) : sv s (n + 1) = sv s n ++ if s.testBit (n + 1) = true then [(n : Int) + 1] else [] := by
  unfold sv
  rw [List.range_succ, List.filter_append, List.map_append]
  congr 1
  by_cases h : s.testBit (n + 1) = true
  · simp [h]
  · simp [h]
theorem sv_mem (s : Nat) (x : Int) : ∀ n, x ∈ sv s n ↔ 1 ≤ x ∧ x ≤ n ∧ tb s x = true := by
  intro n
  unfold sv tb
  rw [List.mem_map]
  constructor
  · rintro ⟨i, hi, rfl⟩
    obtain ⟨h1, h2⟩ := List.mem_filter.1 hi
    have := List.mem_range.1 h1
    refine ⟨by omega, by omega, ?_⟩
    rw [show ((i : Int) + 1).toNat = i + 1 by omega]
    exact h2
  · rintro ⟨h1, h2, h3⟩
    refine ⟨x.toNat - 1, List.mem_filter.2 ⟨List.mem_range.2 (by omega), ?_⟩, by omega⟩
    rw [show x.toNat - 1 + 1 = x.toNat by omega]
    exact h3
theorem srv_mem (s : Nat) (x : Int) : x ∈ srv s ↔ isSrv x = true ∧ tb s x = true := by
  unfold srv
  rw [sv_mem]
  unfold isSrv
  simp
  constructor
  · rintro ⟨h1, h2, h3⟩; exact ⟨⟨h1, h2⟩, h3⟩
  · rintro ⟨⟨h1, h2⟩, h3⟩; exact ⟨h1, h2, h3⟩
theorem sv_asc (s : Nat) : ∀ n, Asc (sv s n)
  | 0 => List.Pairwise.nil
  | n + 1 => by
    rw [sv_succ]
    refine List.pairwise_append.2 ⟨sv_asc s n, by split <;> simp, fun x hx y hy => ?_⟩
    have := ((sv_mem s x n).1 hx).2.1
    split at hy
    · simp at hy; omega
    · cases hy
theorem srv_asc (s : Nat) : Asc (srv s) := sv_asc s 12
theorem sv_length (s n : Nat) : (sv s n).length ≤ n := by
  unfold sv
  rw [List.length_map]
  exact Nat.le_trans (List.length_filter_le _ _) (by simp)
/-- How many bits are set. -/
def pc (s : Nat) : Nat := (List.range 16).countP fun i => s.testBit i
theorem pc_srv {ms : List Mem} {p : Int} (hv : Val p ms) {s : Nat} (h : Sub ms s) : pc s = (srv s).length := by
  have hb : ∀ i, i = 0 ∨ 12 < i → s.testBit i = false := by
    intro i hi
    cases hs : s.testBit i with
    | false => rfl
    | true =>
      obtain ⟨m, hm, rfl⟩ := h i hs
      have := hv.mem m hm
      omega
  unfold pc srv sv
  rw [List.length_map, ← List.countP_eq_length_filter]
  rw [show List.range 16 = 0 :: ((List.range 12).map (· + 1) ++ [13, 14, 15]) by decide]
  rw [List.countP_cons, List.countP_append, List.countP_map]
  simp only [List.countP_cons, List.countP_nil, hb 0 (by omega), hb 13 (by omega), hb 14 (by omega), hb 15 (by omega)]
  simp only [Bool.false_eq_true, if_false, Nat.add_zero, Function.comp_def]
theorem srv_members {ms : List Mem} (hv : Val 0 ms) (p : Int → Bool) {s : Nat} (h : Sub ms s) (hp : ∀ m ∈ ms, tb s m.1 = p m.1) : srv s = (ms.map (·.1)).filter p := by
  refine asc_ext (srv_asc s) (asc_filter hv.asc p) fun x => ?_
  rw [srv_mem, List.mem_filter, List.mem_map]
  constructor
  · rintro ⟨h1, h2⟩
    obtain ⟨m, hm, he⟩ := h _ h2
    have := hv.mem m hm
    have h1 := of_decide_eq_true h1
    have : m.1 = x := by omega
    subst this
    exact ⟨⟨m, hm, rfl⟩, by rw [← hp m hm]; exact h2⟩
  · rintro ⟨⟨m, hm, rfl⟩, h2⟩
    have := hv.mem m hm
    exact ⟨decide_eq_true ⟨by omega, by omega⟩, by rw [hp m hm]; exact h2⟩
theorem cnt_mask {ms : List Mem} (hv : Val 0 ms) {s : Nat} (h : Sub ms s) : cnt (tb s) ms = pc s := by
  rw [pc_srv hv h, srv_members hv (tb s) h fun _ _ => rfl]
  unfold cnt
  rw [← List.countP_eq_length_filter, List.countP_map]
  rfl
/-- A predicate on the members, as a mask. -/
def mask (ms : List Mem) (p : Int → Bool) : Nat := memL (ms.filter fun m => p m.1)
theorem mask_sub (ms : List Mem) (p : Int → Bool) : Sub ms (mask ms p) := fun i hi => by
  obtain ⟨m, hm, he⟩ := (memL_bit i).1 hi
  exact ⟨m, (List.mem_filter.1 hm).1, he⟩
theorem mask_bit {ms : List Mem} (hv : Val 0 ms) (p : Int → Bool) {m : Mem} (hm : m ∈ ms) : tb (mask ms p) m.1 = p m.1 := by
  rw [Bool.eq_iff_iff]
  unfold tb mask
  rw [memL_bit]
  have h0 := hv.mem m hm
  constructor
  · rintro ⟨a, ha, he⟩
    obtain ⟨h1, h2⟩ := List.mem_filter.1 ha
    have h3 := hv.mem a h1
    have : a.1 = m.1 := by omega
    rw [← this]; exact h2
  · intro h
    exact ⟨m, List.mem_filter.2 ⟨hm, h⟩, rfl⟩
theorem mask_le {ms : List Mem} {s : Nat} (h : Sub ms s) : s ≤ memL ms := by
  have e : s = s &&& memL ms := by
    apply Nat.eq_of_testBit_eq
    intro i
    rw [Nat.testBit_and]
    cases hs : s.testBit i with
    | false => rfl
    | true =>
      have := (memL_bit (ms := ms) i).2 (h i hs)
      rw [this]; rfl
  rw [e]
  exact Nat.and_le_right
/-- A mask of members is told by its members. -/
theorem mask_ext {ms : List Mem} {s t : Nat} (hs : Sub ms s) (ht : Sub ms t) (h : ∀ m ∈ ms, tb s m.1 = tb t m.1) : s = t := by
  apply Nat.eq_of_testBit_eq
  intro i
  rw [Bool.eq_iff_iff]
  constructor
  · intro hi
    obtain ⟨m, hm, rfl⟩ := hs i hi
    have := h m hm
    unfold tb at this
    rw [← this]; exact hi
  · intro hi
    obtain ⟨m, hm, rfl⟩ := ht i hi
    have := h m hm
    unfold tb at this
    rw [this]; exact hi

end Go.Proofs.Ytbbgjckiooejhaa.QM
