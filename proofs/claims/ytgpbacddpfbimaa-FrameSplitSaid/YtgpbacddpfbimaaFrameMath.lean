/-
  Mathematics of package frame: the checksum of a list of bytes (FM.crc) and that a changed byte changes it; frames, what Decode and Feed say of lists of bytes, cutting a stream. No conditions beyond those that each lemma names.
-/
import Derived.Test.YtgpbacddpfbimaaWireMath
namespace Go.Proofs.Ytgpbacddpfbimaa.FM
open WM (Bytes isByte)

def poly : Nat := 2197175160
/-- One bit of the checksum. -/
def step (c : Nat) : Nat := if c % 2 = 1 then c / 2 ^^^ poly else c / 2
def steps : Nat → Nat → Nat
  | 0, c => c
  | k + 1, c => steps k (step c)
/-- One byte. -/
def put (c x : Nat) : Nat := steps 8 (c ^^^ x)
def crcFrom (c : Nat) : List Int → Nat
  | [] => c
  | x :: r => crcFrom (put c x.toNat) r
def crc (xs : List Int) : Nat := crcFrom 4294967295 xs ^^^ 4294967295

theorem poly_hi : poly.testBit 31 = true := by decide
theorem xor_lt {a b : Nat} (ha : a < 4294967296) (hb : b < 4294967296) : a ^^^ b < 4294967296 := by
  have := Nat.xor_lt_two_pow (n := 32) (x := a) (y := b) (by omega) (by omega)
  omega
theorem xor_inj {a b m : Nat} (h : a ^^^ m = b ^^^ m) : a = b := by
  have : a ^^^ m ^^^ m = b ^^^ m ^^^ m := by rw [h]
  simpa [Nat.xor_assoc] using this
theorem xor_inj' {a b m : Nat} (h : m ^^^ a = m ^^^ b) : a = b := by
  rw [Nat.xor_comm m a, Nat.xor_comm m b] at h; exact xor_inj h
theorem step_lt {c : Nat} (h : c < 4294967296) : step c < 4294967296 := by
  unfold step
  split
  · exact xor_lt (by omega) (by decide)
  · omega
theorem odd_ge {a : Nat} (h : a < 2147483648) : 2147483648 ≤ a ^^^ poly := by
  have ht : (a ^^^ poly).testBit 31 = true := by
    rw [Nat.testBit_xor, poly_hi, Nat.testBit_lt_two_pow (by omega : a < 2 ^ 31)]; rfl
  have := Nat.ge_two_pow_of_testBit ht
  omega
theorem step_inj {a b : Nat} (ha : a < 4294967296) (hb : b < 4294967296) (h : step a = step b) : a = b := by
  unfold step at h
  have h1 := odd_ge (a := a / 2) (by omega)
  have h2 := odd_ge (a := b / 2) (by omega)
  split at h <;> split at h
  · have := xor_inj h; omega
  · omega
  · omega
  · omega
theorem steps_lt : ∀ (k : Nat) {c : Nat}, c < 4294967296 → steps k c < 4294967296
  | 0, _, h => h
  | k + 1, _, h => steps_lt k (step_lt h)
theorem steps_inj : ∀ (k : Nat) {a b : Nat}, a < 4294967296 → b < 4294967296 → steps k a = steps k b → a = b
  | 0, _, _, _, _, h => h
  | k + 1, _, _, ha, hb, h => step_inj ha hb (steps_inj k (step_lt ha) (step_lt hb) h)
theorem steps_succ' : ∀ (k c : Nat), steps (k + 1) c = step (steps k c)
  | 0, _ => rfl
  | k + 1, c => steps_succ' k (step c)
theorem put_lt {c x : Nat} (hc : c < 4294967296) (hx : x < 256) : put c x < 4294967296 := steps_lt 8 (xor_lt hc (by omega))
theorem crcFrom_lt : ∀ (xs : List Int) {c : Nat}, c < 4294967296 → Bytes xs → crcFrom c xs < 4294967296
  | [], _, h, _ => h
  | x :: r, c, h, hb => by
    have hx := hb x (by simp)
    unfold isByte at hx
    exact crcFrom_lt r (put_lt h (by omega)) (fun y hy => hb y (by simp [hy]))
theorem crc_lt {xs : List Int} (h : Bytes xs) : crc xs < 4294967296 := xor_lt (crcFrom_lt xs (by omega) h) (by omega)
theorem crcFrom_append : ∀ (xs ys : List Int) (c : Nat), crcFrom c (xs ++ ys) = crcFrom (crcFrom c xs) ys
  | [], _, _ => rfl
  | _ :: r, ys, _ => crcFrom_append r ys _
theorem crcFrom_inj : ∀ (xs : List Int) {a b : Nat}, a < 4294967296 → b < 4294967296 → Bytes xs → crcFrom a xs = crcFrom b xs → a = b
  | [], _, _, _, _, _, h => h
  | x :: r, a, b, ha, hb, hx, h => by
    have h0 := hx x (by simp)
    unfold isByte at h0
    have hr : Bytes r := fun y hy => hx y (by simp [hy])
    have := crcFrom_inj r (put_lt ha (by omega)) (put_lt hb (by omega)) hr h
    exact xor_inj (steps_inj 8 (xor_lt ha (by omega)) (xor_lt hb (by omega)) this)

theorem Bytes.of_append {xs ys : List Int} (h : Bytes (xs ++ ys)) : Bytes xs ∧ Bytes ys := ⟨fun c hc => h c (by simp [hc]), fun c hc => h c (by simp [hc])⟩
theorem Bytes.append' {xs ys : List Int} (h : Bytes xs) (k : Bytes ys) : Bytes (xs ++ ys) := fun c hc => (List.mem_append.1 hc).elim (h c) (k c)
theorem bytes_take {xs : List Int} (h : Bytes xs) (k : Nat) : Bytes (xs.take k) := fun c hc => h c (List.mem_of_mem_take hc)
theorem bytes_drop {xs : List Int} (h : Bytes xs) (k : Nat) : Bytes (xs.drop k) := fun c hc => h c (List.mem_of_mem_drop hc)
theorem bytes_getD {xs : List Int} (h : Bytes xs) (k : Nat) : 0 ≤ xs.getD k 0 ∧ xs.getD k 0 < 256 := by
  by_cases hk : k < xs.length
  · have := h _ (List.getElem_mem hk)
    simp only [List.getD, List.getElem?_eq_getElem hk, Option.getD_some]
    exact this
  · simp [List.getD, List.getElem?_eq_none (by omega : xs.length ≤ k)]

theorem set_eq {xs : List Int} {k : Nat} {y : Int} (hk : k < xs.length) : xs.set k y = xs.take k ++ (y :: xs.drop (k + 1)) := by rw [List.set_eq_take_append_cons_drop, if_pos hk]
theorem bytes_set {xs : List Int} {k : Nat} {y : Int} (h : Bytes xs) (hy : isByte y) : Bytes (xs.set k y) := fun c hc => (List.mem_or_eq_of_mem_set hc).elim (h c) (fun e => e ▸ hy)

/-- A changed byte changes the checksum. -/
theorem crc_set {xs : List Int} {k : Nat} {y : Int} (h : Bytes xs) (hk : k < xs.length) (hy : isByte y) (hne : y ≠ xs.getD k 0) : crc (xs.set k y) ≠ crc xs := by
  intro he
  have h1 := xor_inj he
  have hx := h _ (List.getElem_mem hk)
  have hg : xs.getD k 0 = xs[k] := by simp [List.getD, List.getElem?_eq_getElem hk]
  rw [hg] at hne
  have h2 : xs = xs.take k ++ (xs[k] :: xs.drop (k + 1)) := by rw [← List.drop_eq_getElem_cons hk, List.take_append_drop]
  rw [set_eq hk] at h1
  conv at h1 => rhs; rw [h2]
  rw [crcFrom_append, crcFrom_append] at h1
  have hc := crcFrom_lt (xs.take k) (c := 4294967295) (by omega) (bytes_take h k)
  generalize crcFrom 4294967295 (xs.take k) = c at h1 hc
  unfold isByte at hy hx
  have h3 := crcFrom_inj (xs.drop (k + 1)) (put_lt hc (by omega)) (put_lt hc (by omega)) (bytes_drop h _) h1
  have h4 := xor_inj' (steps_inj 8 (xor_lt hc (by omega)) (xor_lt hc (by omega)) h3)
  omega

/-- Four bytes, the highest first. -/
def four (v : Nat) : List Int := [((v / 16777216 % 256 : Nat) : Int), ((v / 65536 % 256 : Nat) : Int), ((v / 256 % 256 : Nat) : Int), ((v % 256 : Nat) : Int)]
def num (xs : List Int) : Int := xs.getD 0 0 * 16777216 + xs.getD 1 0 * 65536 + xs.getD 2 0 * 256 + xs.getD 3 0
theorem four_length (v : Nat) : (four v).length = 4 := rfl
theorem four_bytes (v : Nat) : Bytes (four v) := by
  intro c hc
  simp only [four, List.mem_cons, List.not_mem_nil, or_false] at hc
  unfold isByte
  omega
theorem num_four (v : Nat) (h : v < 4294967296) (r : List Int) : num (four v ++ r) = v := by
  simp only [num, four, List.cons_append, List.nil_append, List.getD_cons_zero, List.getD_cons_succ]
  omega
theorem num_nonneg {xs : List Int} (h : Bytes xs) : 0 ≤ num xs := by
  have h0 := bytes_getD h 0; have h1 := bytes_getD h 1; have h2 := bytes_getD h 2; have h3 := bytes_getD h 3
  unfold num; omega
theorem num_lt {xs : List Int} (h : Bytes xs) : num xs < 4294967296 := by
  have h0 := bytes_getD h 0; have h1 := bytes_getD h 1; have h2 := bytes_getD h 2; have h3 := bytes_getD h 3
  unfold num; omega
theorem getD_append {xs ys : List Int} {i : Nat} (h : i < xs.length) : (xs ++ ys).getD i 0 = xs.getD i 0 := by simp [List.getD, List.getElem?_append_left h]
theorem num_append {xs : List Int} (h : 4 ≤ xs.length) (ys : List Int) : num (xs ++ ys) = num xs := by
  unfold num
  rw [getD_append (by omega), getD_append (by omega), getD_append (by omega), getD_append (by omega)]
theorem num_take {xs : List Int} {k : Nat} (h : 4 ≤ k) : num (xs.take k) = num xs := by
  unfold num
  have e : ∀ i, i < 4 → (xs.take k).getD i 0 = xs.getD i 0 := fun i hi => by simp [List.getD, List.getElem?_take_of_lt (by omega : i < k)]
  rw [e 0 (by omega), e 1 (by omega), e 2 (by omega), e 3 (by omega)]

def frame (p : List Int) : List Int := four p.length ++ p ++ four (crc (four p.length ++ p))
theorem frame_length (p : List Int) : (frame p).length = p.length + 8 := by simp only [frame, List.length_append, four_length]; omega
theorem frame_bytes {p : List Int} (h : Bytes p) : Bytes (frame p) := Bytes.append' (Bytes.append' (four_bytes _) h) (four_bytes _)

/-- What P2.3 says: payload, bytes, error. -/
def dec (xs : List Int) : List Int × Int × Int :=
  if xs.length < 4 then ([], 0, 1)
  else if 65536 < num xs then ([], 0, 3)
  else if (xs.length : Int) < num xs + 8 then ([], 0, 1)
  else if num (xs.drop ((num xs).toNat + 4)) ≠ crc (xs.take ((num xs).toNat + 4)) then ([], 0, 4)
  else ((xs.drop 4).take (num xs).toNat, num xs + 8, 0)

theorem dec_frame (p : List Int) (hb : Bytes p) (hp : p.length ≤ 65536) (r : List Int) : dec (frame p ++ r) = (p, (p.length : Int) + 8, 0) := by
  have hl := frame_length p
  have hn : num (frame p ++ r) = p.length := by
    unfold frame
    rw [List.append_assoc, List.append_assoc]
    exact num_four _ (by omega) _
  have hbl : (four p.length ++ p).length = p.length + 4 := by simp only [List.length_append, four_length]; omega
  unfold dec
  rw [hn, Int.toNat_natCast, if_neg (by rw [List.length_append]; omega), if_neg (by omega), if_neg (by rw [List.length_append]; omega)]
  have e1 : (frame p ++ r).drop (p.length + 4) = four (crc (four p.length ++ p)) ++ r := by
    unfold frame
    rw [List.append_assoc (four p.length ++ p), ← hbl, List.drop_left]
  have e2 : (frame p ++ r).take (p.length + 4) = four p.length ++ p := by
    unfold frame
    rw [List.append_assoc (four p.length ++ p), ← hbl, List.take_left]
  have e3 : ((frame p ++ r).drop 4).take p.length = p := by
    unfold frame
    rw [List.append_assoc, List.append_assoc, List.drop_left' (four_length _), List.take_left]
  rw [e1, e2, e3, num_four _ (crc_lt (Bytes.append' (four_bytes _) hb))]
  simp

theorem dec_cases (xs : List Int) (hb : Bytes xs) :
    (xs.length < 4 ∧ dec xs = ([], 0, 1)) ∨ (4 ≤ xs.length ∧ ∃ n : Nat, num xs = n ∧ n < 4294967296 ∧
      ((65536 < n ∧ dec xs = ([], 0, 3)) ∨ (n ≤ 65536 ∧ xs.length < n + 8 ∧ dec xs = ([], 0, 1)) ∨
       (n ≤ 65536 ∧ n + 8 ≤ xs.length ∧ num (xs.drop (n + 4)) ≠ crc (xs.take (n + 4)) ∧ dec xs = ([], 0, 4)) ∨
       (n ≤ 65536 ∧ n + 8 ≤ xs.length ∧ num (xs.drop (n + 4)) = crc (xs.take (n + 4)) ∧ dec xs = ((xs.drop 4).take n, (n : Int) + 8, 0)))) := by
  by_cases h1 : xs.length < 4
  · exact .inl ⟨h1, by unfold dec; rw [if_pos h1]⟩
  · refine .inr ⟨by omega, ?_⟩
    have hlt := num_lt hb
    obtain ⟨n, hn⟩ := Int.eq_ofNat_of_zero_le (num_nonneg hb)
    refine ⟨n, hn, by omega, ?_⟩
    unfold dec
    rw [if_neg h1, hn, Int.toNat_natCast]
    by_cases h2 : 65536 < n
    · exact .inl ⟨h2, by rw [if_pos (by omega)]⟩
    · rw [if_neg (by omega)]
      by_cases h3 : xs.length < n + 8
      · exact .inr (.inl ⟨by omega, h3, by rw [if_pos (by omega)]⟩)
      · rw [if_neg (by omega)]
        by_cases h4 : num (xs.drop (n + 4)) = crc (xs.take (n + 4))
        · exact .inr (.inr (.inr ⟨by omega, by omega, h4, by rw [if_neg (by simpa using h4)]⟩))
        · exact .inr (.inr (.inl ⟨by omega, by omega, h4, by rw [if_pos h4]⟩))

/-- Bytes that follow change nothing unless Decode wants more. -/
theorem dec_more (xs ys : List Int) (hb : Bytes xs) (h : (dec xs).2.2 ≠ 1) : dec (xs ++ ys) = dec xs := by
  rcases dec_cases xs hb with ⟨_, hd⟩ | ⟨h4, n, hn, hlt, ⟨h1, hd⟩ | ⟨_, _, hd⟩ | ⟨h1, h2, h3, hd⟩ | ⟨h1, h2, h3, hd⟩⟩
  · rw [hd] at h; exact absurd rfl h
  · rw [hd]; unfold dec
    rw [num_append h4, hn, if_neg (by rw [List.length_append]; omega), if_pos (by omega)]
  · rw [hd] at h; exact absurd rfl h
  · rw [hd]; unfold dec
    rw [num_append h4, hn, Int.toNat_natCast, if_neg (by rw [List.length_append]; omega), if_neg (by omega), if_neg (by rw [List.length_append]; omega), if_pos]
    rw [List.drop_append_of_le_length (by omega), List.take_append_of_le_length (by omega), num_append (by rw [List.length_drop]; omega)]
    exact h3
  · rw [hd]; unfold dec
    rw [num_append h4, hn, Int.toNat_natCast, if_neg (by rw [List.length_append]; omega), if_neg (by omega), if_neg (by rw [List.length_append]; omega), if_neg]
    · rw [List.drop_append_of_le_length (by omega), List.take_append_of_le_length (by rw [List.length_drop]; omega)]
    · rw [List.drop_append_of_le_length (by omega), List.take_append_of_le_length (by omega), num_append (by rw [List.length_drop]; omega)]
      simpa using h3

/-- What P2.4 says of the bytes at hand: what is left, the error, the payloads. -/
def feed (xs : List Int) : List Int × Int × List (List Int) :=
  if (dec xs).2.2 = 0 ∧ 8 ≤ (dec xs).2.1 ∧ (dec xs).2.1 ≤ xs.length then
    let r := feed (xs.drop (dec xs).2.1.toNat)
    (r.1, r.2.1, (dec xs).1 :: r.2.2)
  else if (dec xs).2.2 = 1 then (xs, 0, []) else ([], (dec xs).2.2, [])
termination_by xs.length
decreasing_by rw [List.length_drop]; omega

theorem feed_more {xs : List Int} {n : Nat} {p : List Int} (h : dec xs = (p, (n : Int), 0)) (h8 : 8 ≤ n) (hn : n ≤ xs.length) :
    feed xs = ((feed (xs.drop n)).1, (feed (xs.drop n)).2.1, p :: (feed (xs.drop n)).2.2) := by
  rw [feed]
  rw [if_pos (by rw [h]; exact ⟨rfl, by simp only []; omega, by simp only []; omega⟩), h]
  simp only [Int.toNat_natCast]
theorem feed_wait {xs : List Int} (h : (dec xs).2.2 = 1) : feed xs = (xs, 0, []) := by
  rw [feed]
  rw [if_neg (by rw [h]; intro ⟨h, _⟩; omega), if_pos h]
theorem feed_stop {xs : List Int} {e : Int} (h : (dec xs).2.2 = e) (h0 : e ≠ 0) (h1 : e ≠ 1) : feed xs = ([], e, []) := by
  rw [feed]
  rw [if_neg (by rw [h]; intro ⟨h, _⟩; omega), if_neg (by omega), h]

/-- Feed at a splitter's state. -/
def next (buf : List Int) (failed : Int) (xs : List Int) : List Int × Int × List (List Int) := if failed = 0 then feed (buf ++ xs) else ([], failed, [])

/-- The three ways of one round. -/
theorem dec_ways (xs : List Int) (hb : Bytes xs) :
    (∃ (n : Nat) (p : List Int), dec xs = (p, (n : Int), 0) ∧ 8 ≤ n ∧ n ≤ xs.length ∧ p.length + 8 = n ∧ Bytes p) ∨ dec xs = ([], 0, 1) ∨ dec xs = ([], 0, 3) ∨ dec xs = ([], 0, 4) := by
  rcases dec_cases xs hb with ⟨_, hd⟩ | ⟨h4, n, hn, hlt, ⟨h1, hd⟩ | ⟨_, _, hd⟩ | ⟨h1, h2, h3, hd⟩ | ⟨h1, h2, h3, hd⟩⟩
  · exact .inr (.inl hd)
  · exact .inr (.inr (.inl hd))
  · exact .inr (.inl hd)
  · exact .inr (.inr (.inr hd))
  · exact .inl ⟨n + 8, _, hd, by omega, by omega, by rw [List.length_take, List.length_drop]; omega, bytes_take (bytes_drop hb _) _⟩

theorem feed_split : ∀ (k : Nat) (xs ys : List Int), xs.length ≤ k → Bytes xs →
    feed (xs ++ ys) = ((next (feed xs).1 (feed xs).2.1 ys).1, (next (feed xs).1 (feed xs).2.1 ys).2.1, (feed xs).2.2 ++ (next (feed xs).1 (feed xs).2.1 ys).2.2) := by
  intro k
  induction k with
  | zero =>
    intro xs ys hk hb
    obtain rfl : xs = [] := List.eq_nil_of_length_eq_zero (by omega)
    have h0 : feed [] = ([], 0, []) := feed_wait (by rfl)
    rw [h0]
    simp [next]
  | succ k ih =>
    intro xs ys hk hb
    rcases dec_ways xs hb with ⟨n, p, hd, h8, hn, _, _⟩ | hd | hd | hd
    · have hd2 : dec (xs ++ ys) = (p, (n : Int), 0) := by rw [dec_more xs ys hb (by rw [hd]; exact (by decide : (0 : Int) ≠ 1)), hd]
      rw [feed_more hd2 h8 (by rw [List.length_append]; omega), feed_more hd h8 hn, List.drop_append_of_le_length hn]
      have := ih (xs.drop n) ys (by rw [List.length_drop]; omega) (bytes_drop hb n)
      rw [this]
      rfl
    · rw [feed_wait (xs := xs) (by rw [hd])]
      simp [next]
    · have hd2 : dec (xs ++ ys) = ([], 0, 3) := by rw [dec_more xs ys hb (by rw [hd]; decide), hd]
      rw [feed_stop (xs := xs ++ ys) (e := 3) (by rw [hd2]) (by decide) (by decide), feed_stop (xs := xs) (e := 3) (by rw [hd]) (by decide) (by decide)]
      simp [next]
    · have hd2 : dec (xs ++ ys) = ([], 0, 4) := by rw [dec_more xs ys hb (by rw [hd]; decide), hd]
      rw [feed_stop (xs := xs ++ ys) (e := 4) (by rw [hd2]) (by decide) (by decide), feed_stop (xs := xs) (e := 4) (by rw [hd]) (by decide) (by decide)]
      simp [next]

theorem feed_bytes : ∀ (k : Nat) (xs : List Int), xs.length ≤ k → Bytes xs → Bytes (feed xs).1 ∧ (feed xs).1.length ≤ xs.length ∧ (feed xs).2.2.length ≤ xs.length ∧ (∀ p ∈ (feed xs).2.2, Bytes p) := by
  intro k
  induction k with
  | zero =>
    intro xs hk hb
    obtain rfl : xs = [] := List.eq_nil_of_length_eq_zero (by omega)
    have h0 : feed [] = ([], 0, []) := feed_wait (by rfl)
    rw [h0]
    exact ⟨hb, Nat.le_refl _, Nat.le_refl _, (fun _ h => by cases h)⟩
  | succ k ih =>
    intro xs hk hb
    rcases dec_ways xs hb with ⟨n, p, hd, h8, hn, _, hp⟩ | hd | hd | hd
    · rw [feed_more hd h8 hn]
      have hl : (xs.drop n).length = xs.length - n := List.length_drop
      obtain ⟨h1, h2, h3, h4⟩ := ih (xs.drop n) (by omega) (bytes_drop hb n)
      refine ⟨h1, by simp only []; omega, by simp only [List.length_cons]; omega, ?_⟩
      intro q hq
      rcases List.mem_cons.1 hq with rfl | hq
      · exact hp
      · exact h4 q hq
    · rw [feed_wait (by rw [hd])]
      exact ⟨hb, Nat.le_refl _, Nat.zero_le _, (fun _ h => by cases h)⟩
    · rw [feed_stop (xs := xs) (e := 3) (by rw [hd]) (by decide) (by decide)]
      exact ⟨(fun _ h => by cases h), Nat.zero_le _, Nat.zero_le _, (fun _ h => by cases h)⟩
    · rw [feed_stop (xs := xs) (e := 4) (by rw [hd]) (by decide) (by decide)]
      exact ⟨(fun _ h => by cases h), Nat.zero_le _, Nat.zero_le _, (fun _ h => by cases h)⟩

/-- Frames one after the other. -/
def frames (ps : List (List Int)) : List Int := (ps.map frame).flatten
theorem frames_cons (p : List Int) (ps : List (List Int)) : frames (p :: ps) = frame p ++ frames ps := by simp [frames]
theorem frames_snoc (ps : List (List Int)) (p : List Int) : frames (ps ++ [p]) = frames ps ++ frame p := by simp [frames]
theorem frames_bytes : ∀ (ps : List (List Int)), (∀ p ∈ ps, Bytes p) → Bytes (frames ps)
  | [], _ => fun _ h => by cases h
  | p :: ps, h => by
    rw [frames_cons]
    exact Bytes.append' (frame_bytes (h p (by simp))) (frames_bytes ps (fun q hq => h q (by simp [hq])))
theorem feed_frames : ∀ (ps : List (List Int)), (∀ p ∈ ps, Bytes p ∧ p.length ≤ 65536) → feed (frames ps) = ([], 0, ps)
  | [], _ => feed_wait (by rfl)
  | p :: ps, h => by
    obtain ⟨h1, h2⟩ := h p (by simp)
    rw [frames_cons]
    have hd := dec_frame p h1 h2 (frames ps)
    have hl := frame_length p
    have := feed_more (xs := frame p ++ frames ps) (n := (frame p).length) (p := p) (by rw [hd, hl]; rfl) (by omega) (by rw [List.length_append]; omega)
    rw [this, List.drop_left, feed_frames ps (fun q hq => h q (by simp [hq]))]

/-- A proper prefix of a frame. -/
theorem dec_short (p : List Int) (hp : p.length ≤ 65536) (k : Nat) (hk : k < p.length + 8) : dec ((frame p).take k) = ([], 0, 1) := by
  have hl := frame_length p
  unfold dec
  have hkl : ((frame p).take k).length = k := by rw [List.length_take]; omega
  rw [hkl]
  by_cases h4 : k < 4
  · rw [if_pos h4]
  · have hn : num ((frame p).take k) = p.length := by
      rw [num_take (by omega)]
      unfold frame
      rw [List.append_assoc]
      exact num_four _ (by omega) _
    rw [if_neg h4, hn, if_neg (by omega), if_pos (by omega)]

theorem set_append_left {xs ys : List Int} {k : Nat} {y : Int} (h : k < xs.length) : (xs ++ ys).set k y = xs.set k y ++ ys := List.set_append_left _ _ h
theorem num_four_set {xs : List Int} {k : Nat} {y : Int} (hb : Bytes xs) (h4 : xs.length = 4) (hk : k < 4) (hne : y ≠ xs.getD k 0) : num (xs.set k y) ≠ num xs := by
  obtain ⟨a, b, c, d, rfl⟩ : ∃ a b c d, xs = [a, b, c, d] := by
    match xs, h4 with
    | [a, b, c, d], _ => exact ⟨a, b, c, d, rfl⟩
  have ha := hb a (by simp); have hb' := hb b (by simp); have hc := hb c (by simp); have hd := hb d (by simp)
  unfold isByte at ha hb' hc hd
  have hk' : k = 0 ∨ k = 1 ∨ k = 2 ∨ k = 3 := by omega
  rcases hk' with rfl | rfl | rfl | rfl <;> simp [num] at hne ⊢ <;> omega

/-- A changed byte of payload or trailer. -/
theorem dec_damage (p : List Int) (hb : Bytes p) (hp : p.length ≤ 65536) (k : Nat) (h4 : 4 ≤ k) (hk : k < p.length + 8) (y : Int) (hy : isByte y) (hne : y ≠ (frame p).getD k 0) :
    dec ((frame p).set k y) = ([], 0, 4) := by
  have hl := frame_length p
  have hbl : (four p.length ++ p).length = p.length + 4 := by simp only [List.length_append, four_length]; omega
  have hn : num ((frame p).set k y) = p.length := by
    unfold frame
    rw [List.append_assoc, List.set_append_right _ _ (by rw [four_length]; omega)]
    exact num_four _ (by omega) _
  have hbb : Bytes (four p.length ++ p) := Bytes.append' (four_bytes _) hb
  unfold dec
  rw [List.length_set, hn, Int.toNat_natCast, if_neg (by omega), if_neg (by omega), if_neg (by omega), if_pos]
  generalize hB : four p.length ++ p = B at hbl hbb
  have hfr : frame p = B ++ four (crc B) := by unfold frame; rw [hB]
  rw [hfr] at hne ⊢
  rw [← hbl]
  by_cases hkb : k < B.length
  · rw [getD_append hkb] at hne
    rw [List.set_append_left _ _ hkb]
    have e1 : (B.set k y ++ four (crc B)).drop B.length = four (crc B) := by
      conv => lhs; rw [← List.length_set (as := B) (i := k) (a := y)]
      exact List.drop_left
    have e2 : (B.set k y ++ four (crc B)).take B.length = B.set k y := by
      conv => lhs; rw [← List.length_set (as := B) (i := k) (a := y)]
      exact List.take_left
    rw [e1, e2]
    have h1 := num_four (crc B) (crc_lt hbb) []
    rw [List.append_nil] at h1
    rw [h1]
    have h2 := crc_set hbb hkb hy hne
    omega
  · rw [List.set_append_right _ _ (by omega), List.drop_left, List.take_left]
    have hg : (B ++ four (crc B)).getD k 0 = (four (crc B)).getD (k - B.length) 0 := by simp [List.getD, List.getElem?_append_right (by omega : B.length ≤ k)]
    rw [hg] at hne
    have h1 := num_four (crc B) (crc_lt hbb) []
    rw [List.append_nil] at h1
    have h2 := num_four_set (four_bytes (crc B)) (four_length _) (k := k - B.length) (by omega) hne
    omega

/-- What the laws check of the checksum and of one frame: '123456789' and 'ab'. -/
theorem crc_nine : crc [49, 50, 51, 52, 53, 54, 55, 56, 57] = 3808858755 := by decide +kernel

end Go.Proofs.Ytgpbacddpfbimaa.FM
