/-
  The search for minimal quorums, plain: what a visit adds, that all minimal quorums are found; overlap and tolerance by what they bound. No Go. No conditions beyond those that each lemma names.
-/
import Derived.Test.YtbbgjckiooejhaaQMath
namespace Go.Proofs.Ytbbgjckiooejhaa.QM

/-- s without the server i. -/
def del (s i : Nat) : Nat := dif s (2 ^ i)
theorem two_lt {i : Nat} (h : i ≤ 12) : 2 ^ i < 65536 := Nat.lt_of_le_of_lt (Nat.pow_le_pow_right (by decide) h) (by decide)
theorem del_bit {s i : Nat} (hs : s < 65536) (hi : i ≤ 12) (j : Nat) : (del s i).testBit j = (s.testBit j && !decide (i = j)) := by
  unfold del
  rw [tb_dif hs (two_lt hi), Nat.testBit_two_pow]

section
variable (Q : Nat → Bool) (ms : List Mem)
/-- A minimal quorum, as a mask. -/
def MinS (t : Nat) : Prop := Q t = true ∧ ∀ i, t.testBit i = true → Q (del t i) = false
/-- What the search has added: D the sets that were examined, M the minimal quorums that were found. -/
structure Run (D M D' M' : List Nat) : Prop where
  sub : ∀ t ∈ D, t ∈ D'
  dom : ∀ t ∈ D', t ∈ D ∨ Sub ms t
  closed : ∀ t ∈ D', t ∉ D → Q t = true → ∀ i, t.testBit i = true → del t i ∈ D'
  found : ∃ N, M' = M ++ N ∧ N.Nodup ∧ ∀ t, t ∈ N ↔ t ∈ D' ∧ t ∉ D ∧ MinS Q t
  nodup : D.Nodup → D'.Nodup
end

section
variable {Q : Nat → Bool} {ms : List Mem}
theorem Run.refl (D M : List Nat) : Run Q ms D M D M :=
  ⟨fun _ h => h, fun _ h => .inl h, fun _ h hn => absurd h hn, ⟨[], by simp, List.nodup_nil, fun t => by simp; intro h h2; exact absurd h h2⟩, fun h => h⟩
theorem Run.trans {D M D1 M1 D2 M2 : List Nat} (h : Run Q ms D M D1 M1) (k : Run Q ms D1 M1 D2 M2) : Run Q ms D M D2 M2 := by
  obtain ⟨N1, rfl, n1, m1⟩ := h.found
  obtain ⟨N2, rfl, n2, m2⟩ := k.found
  refine ⟨fun t ht => k.sub t (h.sub t ht), fun t ht => ?_, fun t ht hn hq i hi => ?_, ⟨N1 ++ N2, by rw [List.append_assoc], ?_, fun t => ?_⟩, fun hn => k.nodup (h.nodup hn)⟩
  · rcases k.dom t ht with h1 | h1
    · exact h.dom t h1
    · exact .inr h1
  · by_cases h1 : t ∈ D1
    · exact k.sub _ (h.closed t h1 hn hq i hi)
    · exact k.closed t ht h1 hq i hi
  · refine List.nodup_append.2 ⟨n1, n2, fun a ha b hb => ?_⟩
    rintro rfl
    exact ((m2 a).1 hb).2.1 ((m1 a).1 ha).1
  · rw [List.mem_append, m1, m2]
    constructor
    · rintro (⟨h1, h2, h3⟩ | ⟨h1, h2, h3⟩)
      · exact ⟨k.sub t h1, h2, h3⟩
      · exact ⟨h1, fun h4 => h2 (h.sub t h4), h3⟩
    · rintro ⟨h1, h2, h3⟩
      by_cases h4 : t ∈ D1
      · exact .inl ⟨h4, h2, h3⟩
      · exact .inr ⟨h1, h4, h3⟩
/-- A set that is no quorum. -/
theorem Run.leaf {D M : List Nat} {s : Nat} (hs : Sub ms s) (hn : s ∉ D) (hq : Q s = false) : Run Q ms D M (s :: D) M :=
  ⟨fun _ h => by simp [h], fun t ht => by
    rcases List.mem_cons.1 ht with rfl | h
    · exact .inr hs
    · exact .inl h, fun t ht h1 h2 => by
    rcases List.mem_cons.1 ht with rfl | h
    · rw [hq] at h2; cases h2
    · exact absurd h h1, ⟨[], by simp, List.nodup_nil, fun t => by
    simp only [List.not_mem_nil, false_iff]
    rintro ⟨h1, h2, h3⟩
    rcases List.mem_cons.1 h1 with rfl | h
    · have h4 := h3.1; rw [hq] at h4; cases h4
    · exact absurd h h2⟩, fun h => List.nodup_cons.2 ⟨hn, h⟩⟩
/-- A quorum, when all that it has with one server less was examined: minimal or not. -/
theorem Run.node {D M D' M' : List Nat} {s : Nat} (hs : Sub ms s) (hn : s ∉ D) (hq : Q s = true) (h : Run Q ms (s :: D) M D' M') (hall : ∀ i, s.testBit i = true → del s i ∈ D') (least : Bool)
    (hl : least = true ↔ ∀ i, s.testBit i = true → Q (del s i) = false) : Run Q ms D M D' (M' ++ if least = true then [s] else []) := by
  obtain ⟨N, rfl, n1, m1⟩ := h.found
  have hsD : s ∈ D' := h.sub s (by simp)
  have hsN : s ∉ N := fun hN => ((m1 s).1 hN).2.1 (by simp)
  refine ⟨fun t ht => h.sub t (by simp [ht]), fun t ht => ?_, fun t ht hn' hq' i hi => ?_, ⟨N ++ if least = true then [s] else [], by rw [List.append_assoc], ?_, fun t => ?_⟩, fun hd => h.nodup (List.nodup_cons.2 ⟨hn, hd⟩)⟩
  · rcases h.dom t ht with h1 | h1
    · rcases List.mem_cons.1 h1 with rfl | h2
      · exact .inr hs
      · exact .inl h2
    · exact .inr h1
  · by_cases e : t = s
    · subst e; exact hall i hi
    · exact h.closed t ht (by simp [e, hn']) hq' i hi
  · refine List.nodup_append.2 ⟨n1, by split <;> simp, fun a ha b hb => ?_⟩
    split at hb
    · simp at hb; subst hb; rintro rfl; exact hsN ha
    · cases hb
  · rw [List.mem_append, m1]
    constructor
    · rintro (⟨h1, h2, h3⟩ | h1)
      · exact ⟨h1, fun h4 => h2 (by simp [h4]), h3⟩
      · split at h1
        · rename_i hle
          simp at h1; subst h1
          exact ⟨hsD, hn, hq, hl.1 hle⟩
        · cases h1
    · rintro ⟨h1, h2, h3⟩
      by_cases e : t = s
      · subst e
        right
        rw [if_pos (hl.2 h3.2)]; simp
      · exact .inl ⟨h1, by simp [e, h2], h3⟩
/-- From all members, nothing examined: just the minimal quorums are found, each once. -/
theorem Run.whole {D M : List Nat} (hv : Val 0 ms) (hmono : ∀ s t, Sub ms s → Sub ms t → (∀ i, s.testBit i = true → t.testBit i = true) → Q s = true → Q t = true) (h : Run Q ms [] [] D M) (hr : memL ms ∈ D) :
    M.Nodup ∧ ∀ t, t ∈ M ↔ Sub ms t ∧ MinS Q t := by
  obtain ⟨N, hN, n1, m1⟩ := h.found
  rw [List.nil_append] at hN
  subst hN
  refine ⟨n1, fun t => ?_⟩
  rw [m1]
  have hall : ∀ (n : Nat) (t : Nat), memL ms - t ≤ n → Sub ms t → Q t = true → t ∈ D := by
    intro n
    induction n with
    | zero =>
      intro t hn hs _
      have := mask_le hs
      have : t = memL ms := by omega
      rw [this]; exact hr
    | succ n ih =>
      intro t hn hs hq
      by_cases hex : ∃ i, (memL ms).testBit i = true ∧ t.testBit i = false
      · obtain ⟨i, hi, hti⟩ := hex
        obtain ⟨m, hm, hmi⟩ := (memL_bit i).1 hi
        have hmv := hv.mem m hm
        have hi12 : i ≤ 12 := by omega
        have hs' : Sub ms (t ||| 2 ^ i) := fun j hj => by
          rw [tb_or, Bool.or_eq_true] at hj
          rcases hj with hj | hj
          · exact hs j hj
          · have hj := of_decide_eq_true hj; subst hj; exact ⟨m, hm, hmi⟩
        have hlt : t < t ||| 2 ^ i := by
          rcases Nat.lt_or_ge t (t ||| 2 ^ i) with h1 | h1
          · exact h1
          · have h2 : t ≤ t ||| 2 ^ i := Nat.left_le_or
            have h3 : t = t ||| 2 ^ i := by omega
            have h4 := congrArg (fun n => n.testBit i) h3
            simp only [tb_or, hti] at h4
            simp at h4
        have hle := mask_le hs'
        have hq' : Q (t ||| 2 ^ i) = true := hmono t _ hs hs' (fun j hj => by rw [tb_or, hj]; rfl) hq
        have hin := ih _ (by omega) hs' hq'
        have hd := h.closed _ hin (by simp) hq' i (by rw [tb_or]; simp)
        have e : del (t ||| 2 ^ i) i = t := by
          apply Nat.eq_of_testBit_eq
          intro j
          rw [del_bit (Nat.lt_trans (hs'.lt hv) (by decide)) hi12, tb_or]
          by_cases e : i = j
          · subst e; rw [hti]; simp
          · simp [e]
        rwa [e] at hd
      · have e : t = memL ms := mask_ext hs (sub_mem ms) fun m hm => by
          unfold tb
          rw [(memL_bit m.1.toNat).2 ⟨m, hm, rfl⟩]
          cases hb : t.testBit m.1.toNat with
          | true => rfl
          | false => exact absurd ⟨_, (memL_bit m.1.toNat).2 ⟨m, hm, rfl⟩, hb⟩ hex
        rw [e]; exact hr
  constructor
  · rintro ⟨h1, _, h3⟩
    rcases h.dom t h1 with h4 | h4
    · cases h4
    · exact ⟨h4, h3⟩
  · rintro ⟨h1, h2⟩
    exact ⟨hall _ t (Nat.le_refl _) h1 h2.1, by simp, h2⟩
end

/-- A list without repeats of numbers below n has at most n of them. -/
theorem nodup_bound : ∀ (n : Nat) (l : List Nat), l.Nodup → (∀ x ∈ l, x < n) → l.length ≤ n
  | 0, l, _, h => by
    cases l with
    | nil => exact Nat.le_refl _
    | cons x l => have := h x (by simp); omega
  | n + 1, l, hd, h => by
    have h1 := nodup_bound n (l.filter fun x => decide (x ≠ n)) (hd.filter _) fun x hx => by
      obtain ⟨h2, h3⟩ := List.mem_filter.1 hx
      have := h x h2
      have h3 := of_decide_eq_true h3
      omega
    have h2 : l.countP (fun x => decide (x = n)) ≤ 1 := by
      rw [show l.countP (fun x => decide (x = n)) = l.count n by rw [List.count]; congr 1]
      exact List.nodup_iff_count.1 hd n
    have h3 := List.length_eq_countP_add_countP (l := l) fun x => decide (x = n)
    rw [← List.countP_eq_length_filter] at h1
    have h4 : l.countP (fun x => decide (x ≠ n)) = l.countP (fun a => !decide (a = n)) := by congr 1; funext a; simp
    have h5 : l.countP (fun a => decide ¬ (decide (a = n) = true)) = l.countP (fun a => !decide (a = n)) := by congr 1; funext a; simp
    omega

/-- The quorum test over a mask. -/
def qm (k c f : Int) (ms : List Mem) (s : Nat) : Bool := isQ k c f ms (tb s)
theorem qm_mono {k c f : Int} {ms : List Mem} (hv : Val 0 ms) : ∀ s t, Sub ms s → Sub ms t → (∀ i, s.testBit i = true → t.testBit i = true) → qm k c f ms s = true → qm k c f ms t = true :=
  fun _ _ _ _ h hq => isQ_mono hv (fun m _ hm => h m.1.toNat hm) hq
theorem srv_mem_member {ms : List Mem} (hv : Val 0 ms) {s : Nat} {m : Mem} (hm : m ∈ ms) : decide (m.1 ∈ srv s) = tb s m.1 := by
  rw [Bool.eq_iff_iff, decide_eq_true_iff, srv_mem]
  have := hv.mem m hm
  constructor
  · exact fun h => h.2
  · exact fun h => ⟨decide_eq_true ⟨by omega, by omega⟩, h⟩
theorem isMin_srv {k c f : Int} {ms : List Mem} (hv : Val 0 ms) {s : Nat} (hs : Sub ms s) : IsMin (isQ k c f ms) ms (srv s) ↔ MinS (qm k c f ms) s := by
  have hlt := Nat.lt_trans (hs.lt hv) (show 8192 < 65536 by decide)
  have e1 : isQ k c f ms (fun y => decide (y ∈ srv s)) = qm k c f ms s := isQ_congr fun m hm => srv_mem_member hv hm
  have hin : ∀ x ∈ srv s, ∃ m ∈ ms, m.1 = x := fun x hx => by
    obtain ⟨h1, h2⟩ := (srv_mem s x).1 hx
    obtain ⟨m, hm, he⟩ := hs _ h2
    have := hv.mem m hm
    have h1 := of_decide_eq_true h1
    exact ⟨m, hm, by omega⟩
  have e2 : ∀ m ∈ ms, isQ k c f ms (fun y => decide (y ∈ srv s) && decide (y ≠ m.1)) = qm k c f ms (del s m.1.toNat) := fun m hm => by
    refine isQ_congr fun a ha => ?_
    have h1 := hv.mem m hm
    have h2 := hv.mem a ha
    rw [srv_mem_member hv ha]
    unfold tb
    rw [del_bit hlt (by omega)]
    congr 1
    rw [Bool.eq_iff_iff]
    simp
    omega
  constructor
  · rintro ⟨_, _, h3, h4⟩
    refine ⟨by rw [← e1]; exact h3, fun i hi => ?_⟩
    obtain ⟨m, hm, rfl⟩ := hs i hi
    rw [← e2 m hm]
    have hmv := hv.mem m hm
    exact h4 m.1 ((srv_mem s m.1).2 ⟨decide_eq_true ⟨by omega, by omega⟩, hi⟩)
  · rintro ⟨h1, h2⟩
    refine ⟨srv_asc s, hin, by rw [e1]; exact h1, fun x hx => ?_⟩
    obtain ⟨m, hm, rfl⟩ := hin x hx
    rw [e2 m hm]
    exact h2 _ ((srv_mem s m.1).1 hx).2
theorem isMin_mask {k c f : Int} {ms : List Mem} (hv : Val 0 ms) {q : List Int} (h : IsMin (isQ k c f ms) ms q) : ∃ s, Sub ms s ∧ srv s = q := by
  refine ⟨mask ms fun y => decide (y ∈ q), mask_sub _ _, ?_⟩
  rw [srv_members hv (fun y => decide (y ∈ q)) (mask_sub _ _) fun m hm => mask_bit hv _ hm]
  refine asc_ext (asc_filter hv.asc _) h.1 fun x => ?_
  rw [List.mem_filter]
  constructor
  · exact fun h => of_decide_eq_true h.2
  · intro hx
    obtain ⟨m, hm, rfl⟩ := h.2.1 x hx
    exact ⟨List.mem_map.2 ⟨m, hm, rfl⟩, decide_eq_true hx⟩
theorem srv_inj {ms : List Mem} (hv : Val 0 ms) {s t : Nat} (hs : Sub ms s) (ht : Sub ms t) (h : srv s = srv t) : s = t :=
  mask_ext hs ht fun m hm => by rw [← srv_mem_member hv hm, ← srv_mem_member hv hm, h]
/-- The masks of all minimal quorums, each once. -/
def MinM (k c f : Int) (ms : List Mem) (M : List Nat) : Prop := M.Nodup ∧ ∀ t, t ∈ M ↔ Sub ms t ∧ MinS (qm k c f ms) t
theorem nodup_map_on {α β : Type} {f : α → β} : ∀ {l : List α}, l.Nodup → (∀ x ∈ l, ∀ y ∈ l, f x = f y → x = y) → (l.map f).Nodup
  | [], _, _ => List.nodup_nil
  | a :: l, hd, h => by
    obtain ⟨h1, h2⟩ := List.nodup_cons.1 hd
    rw [List.map_cons]
    refine List.nodup_cons.2 ⟨fun hm => ?_, nodup_map_on h2 fun x hx y hy => h x (by simp [hx]) y (by simp [hy])⟩
    obtain ⟨y, hy, he⟩ := List.mem_map.1 hm
    have := h y (by simp [hy]) a (by simp) he
    subst this; exact h1 hy
theorem MinM.lists {k c f : Int} {ms : List Mem} (hv : Val 0 ms) {M : List Nat} (h : MinM k c f ms M) : (M.map srv).Nodup ∧ ∀ q, q ∈ M.map srv ↔ IsMin (isQ k c f ms) ms q := by
  refine ⟨nodup_map_on h.1 fun x hx y hy he => srv_inj hv ((h.2 x).1 hx).1 ((h.2 y).1 hy).1 he, fun q => ?_⟩
  rw [List.mem_map]
  constructor
  · rintro ⟨s, hs, rfl⟩
    obtain ⟨h1, h2⟩ := (h.2 s).1 hs
    exact (isMin_srv hv h1).2 h2
  · intro hq
    obtain ⟨s, hs, rfl⟩ := isMin_mask hv hq
    exact ⟨s, (h.2 s).2 ⟨hs, (isMin_srv hv hs).1 hq⟩, rfl⟩
/-- A sorted permutation of them is the list of P4.4. -/
theorem MinM.sorted {k c f : Int} {ms : List Mem} (hv : Val 0 ms) {M : List Nat} (h : MinM k c f ms M) {l : List (List Int)} (hp : l.Perm (M.map srv)) (hs : ∀ (i j : Nat) (a b : List Int), i < j → l[i]? = some a → l[j]? = some b → lex b a = false) : MinL (isQ k c f ms) ms l := by
  obtain ⟨h1, h2⟩ := h.lists hv
  refine ⟨?_, fun q => (hp.mem_iff).trans (h2 q)⟩
  have hd : l.Nodup := hp.nodup_iff.2 h1
  rw [List.pairwise_iff_getElem]
  intro i j hi hj hij
  have hne : l[i] ≠ l[j] := List.pairwise_iff_getElem.1 hd i j hi hj hij
  have hf := hs i j _ _ hij (List.getElem?_eq_getElem hi) (List.getElem?_eq_getElem hj)
  cases he : lex l[i] l[j] with
  | true => rfl
  | false => exact absurd (lex_total _ _ he hf) hne
theorem MinM.length {k c f : Int} {ms : List Mem} (hv : Val 0 ms) {M : List Nat} (h : MinM k c f ms M) : M.length ≤ 8192 := nodup_bound 8192 M h.1 fun x hx => ((h.2 x).1 hx).1.lt hv
theorem MinM.unique_lists {k c f : Int} {ms : List Mem} (hv : Val 0 ms) {M : List Nat} (h : MinM k c f ms M) {l : List (List Int)} (hl : MinL (isQ k c f ms) ms l) (q : List Int) : q ∈ l ↔ q ∈ M.map srv := (hl.2 q).trans ((h.lists hv).2 q).symm

/-! overlap -/
/-- How many of a are in b. -/
def com (a b : List Int) : Nat := a.countP fun x => decide (x ∈ b)
theorem com_comm {a b : List Int} (ha : Asc a) (hb : Asc b) : com a b = com b a := by
  unfold com
  rw [List.countP_eq_length_filter, List.countP_eq_length_filter, asc_ext (asc_filter ha _) (asc_filter hb _)]
  intro x
  simp [List.mem_filter, and_comm]
theorem com_self (a : List Int) : com a a = a.length := by
  unfold com
  rw [List.countP_eq_length]
  intro x hx
  exact decide_eq_true hx
theorem pc_and {ms : List Mem} (hv : Val 0 ms) {s t : Nat} (hs : Sub ms s) (_ht : Sub ms t) : pc (s &&& t) = com (srv s) (srv t) := by
  have h1 : Sub ms (s &&& t) := fun i hi => by
    rw [Nat.testBit_and, Bool.and_eq_true] at hi
    exact hs i hi.1
  rw [pc_srv hv h1]
  unfold com
  rw [List.countP_eq_length_filter, asc_ext (srv_asc (s &&& t)) (asc_filter (srv_asc s) fun x => decide (x ∈ srv t))]
  intro x
  rw [List.mem_filter, decide_eq_true_iff, srv_mem, srv_mem, srv_mem]
  unfold tb
  rw [Nat.testBit_and, Bool.and_eq_true]
  constructor
  · rintro ⟨h1, h2, h3⟩; exact ⟨⟨h1, h2⟩, h1, h3⟩
  · rintro ⟨⟨h1, h2⟩, _, h3⟩; exact ⟨h1, h2, h3⟩
/-- The least number that two of the lists have in common; 0 if there are none. -/
def Least (l : List (List Int)) (o : Int) : Prop := (l = [] ∧ o = 0) ∨ ((∃ a ∈ l, ∃ b ∈ l, o = com a b) ∧ ∀ a ∈ l, ∀ b ∈ l, o ≤ com a b)
theorem Least.unique {l : List (List Int)} {o p : Int} (h : Least l o) (k : Least l p) : o = p := by
  rcases h with ⟨h0, h1⟩ | ⟨⟨a, ha, b, hb, h1⟩, h2⟩
  · rcases k with ⟨_, k1⟩ | ⟨⟨a, ha, _⟩, _⟩
    · omega
    · rw [h0] at ha; cases ha
  · rcases k with ⟨k0, _⟩ | ⟨⟨a', ha', b', hb', k1⟩, k2⟩
    · rw [k0] at ha; cases ha
    · have := h2 a' ha' b' hb'
      have := k2 a ha b hb
      omega
theorem Least.same {l l' : List (List Int)} {o : Int} (h : Least l o) (he : ∀ q, q ∈ l ↔ q ∈ l') : Least l' o := by
  rcases h with ⟨h0, h1⟩ | ⟨⟨a, ha, b, hb, h1⟩, h2⟩
  · refine .inl ⟨?_, h1⟩
    cases l' with
    | nil => rfl
    | cons q l' => have := (he q).2 (by simp); rw [h0] at this; cases this
  · exact .inr ⟨⟨a, (he a).1 ha, b, (he b).1 hb, h1⟩, fun a ha b hb => h2 a ((he a).2 ha) b ((he b).2 hb)⟩
theorem com_members {ms : List Mem} (hv : Val 0 ms) {a b : List Int} (ha : Asc a) (hm : ∀ x ∈ a, ∃ m ∈ ms, m.1 = x) : com a b = cnt (fun x => decide (x ∈ a) && decide (x ∈ b)) ms := by
  unfold com cnt
  rw [List.countP_eq_length_filter, show ms.countP (fun m => decide (m.1 ∈ a) && decide (m.1 ∈ b)) = (ms.map (·.1)).countP (fun x => decide (x ∈ a) && decide (x ∈ b)) by rw [List.countP_map]; rfl]
  rw [List.countP_eq_length_filter, asc_ext (asc_filter ha _) (asc_filter hv.asc _)]
  intro x
  simp only [List.mem_filter, Bool.and_eq_true, decide_eq_true_iff]
  constructor
  · rintro ⟨h1, h2⟩
    obtain ⟨m, hm, rfl⟩ := hm x h1
    exact ⟨List.mem_map.2 ⟨m, hm, rfl⟩, h1, h2⟩
  · rintro ⟨_, h1, h2⟩; exact ⟨h1, h2⟩
/-- P4.6: the overlap is above what the rule masks. -/
theorem Least.above {k c f : Int} {ms : List Mem} (hr : errR k c f = 0) (hv : Val 0 ms) {l : List (List Int)} (hl : MinL (isQ k c f ms) ms l) {o : Int} (h : Least l o) : (l = [] ∧ o = 0) ∨ (l ≠ [] ∧ f < o ∧ 0 < o) := by
  rcases h with h | ⟨⟨a, ha, b, hb, h1⟩, _⟩
  · exact .inl h
  · have ha' := (hl.2 a).1 ha
    have hb' := (hl.2 b).1 hb
    have h3 := meet hr hv ha'.2.2.1 hb'.2.2.1
    rw [com_members hv ha'.1 ha'.2.1] at h1
    refine .inr ⟨fun h => (by rw [h] at ha; cases ha), by omega, ?_⟩
    have : 0 ≤ f := by rcases errR_zero hr with h | h | h | h <;> omega
    omega
/-- Two quorums have at least the overlap in common. -/
theorem Least.bound {k c f : Int} {ms : List Mem} (hv : Val 0 ms) {l : List (List Int)} (hl : MinL (isQ k c f ms) ms l) {o : Int} (h : Least l o) {p q : Int → Bool} (hp : isQ k c f ms p = true) (hq : isQ k c f ms q = true) : o ≤ cnt (fun x => p x && q x) ms := by
  rw [← found_iff hv hl, List.any_eq_true] at hp hq
  obtain ⟨a, ha, h1⟩ := hp
  obtain ⟨b, hb, h2⟩ := hq
  rcases h with ⟨h, _⟩ | ⟨_, h3⟩
  · rw [h] at ha; cases ha
  · have h4 := h3 a ha b hb
    have ha' := (hl.2 a).1 ha
    rw [com_members hv ha'.1 ha'.2.1] at h4
    have h5 : cnt (fun x => decide (x ∈ a) && decide (x ∈ b)) ms ≤ cnt (fun x => p x && q x) ms := cnt_mono fun m _ hm => by
      rw [Bool.and_eq_true, decide_eq_true_iff, decide_eq_true_iff] at hm
      rw [List.all_eq_true.1 h1 _ hm.1, List.all_eq_true.1 h2 _ hm.2]; rfl
    omega

/-! tolerance -/
/-- One more than the tolerance: the least number of members without which there is no quorum. -/
def Tol (k c f : Int) (ms : List Mem) (t : Int) : Prop :=
  (∃ p : Int → Bool, isQ k c f ms (fun x => !p x) = false ∧ t = cnt p ms) ∧ ∀ p : Int → Bool, isQ k c f ms (fun x => !p x) = false → t ≤ cnt p ms
theorem Tol.unique {k c f : Int} {ms : List Mem} {t u : Int} (h : Tol k c f ms t) (g : Tol k c f ms u) : t = u := by
  obtain ⟨⟨p, h1, h2⟩, h3⟩ := h
  obtain ⟨⟨q, g1, g2⟩, g3⟩ := g
  have := h3 q g1
  have := g3 p h1
  omega
theorem isQ_not_all {k c f : Int} {ms : List Mem} (hr : errR k c f = 0) (hv : Val 0 ms) : isQ k c f ms (fun x => !(fun _ => true) x) = false := by
  simpa using isQ_none hr hv

end Go.Proofs.Ytbbgjckiooejhaa.QM
