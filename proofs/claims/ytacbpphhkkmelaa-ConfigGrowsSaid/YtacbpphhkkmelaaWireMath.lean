/-
  Plain mathematics of the base-128 encoding (P1.1, P1.2) and the zigzag numbers (P1.3): lists and integers alone. No conditions beyond those that each lemma names.
-/
import GoSem.Claim
namespace Go.Proofs.Ytacbpphhkkmelaa.WM

/-- The base-128 groups of n, least significant first. -/
def enc (n : Nat) : List Int := if n < 128 then [(n : Int)] else ((n % 128 + 128 : Nat) : Int) :: enc (n / 128)
termination_by n
decreasing_by omega

theorem enc_small {n : Nat} (h : n < 128) : enc n = [(n : Int)] := by rw [enc, if_pos h]
theorem enc_big {n : Nat} (h : ¬ n < 128) : enc n = ((n % 128 + 128 : Nat) : Int) :: enc (n / 128) := by rw [enc, if_neg h]

/-- P1.2 read off a list of bytes, from index i on, v being gathered: (value, bytes consumed, error). -/
def dec (i : Nat) (v : Int) : List Int → Int × Int × Int
  | [] => (0, 0, 1)
  | c :: r => if i = 9 ∧ 1 < c then (0, 0, 9) else if c < 128 then (if c = 0 ∧ 0 < i then (0, 0, 2) else (v + c * 128 ^ i, i + 1, 0)) else dec (i + 1) (v + (c - 128) * 128 ^ i) r

def isByte (c : Int) : Prop := 0 ≤ c ∧ c < 256
def Bytes (xs : List Int) : Prop := ∀ c ∈ xs, isByte c

theorem enc_bytes (n : Nat) : Bytes (enc n) := by
  induction n using Nat.strongRecOn with
  | _ n ih =>
    intro c hc
    by_cases h : n < 128
    · rw [enc_small h] at hc; simp at hc; subst hc; unfold isByte; omega
    · rw [enc_big h] at hc
      rcases List.mem_cons.1 hc with rfl | hc
      · unfold isByte; omega
      · exact ih (n / 128) (by omega) c hc

theorem enc_pos (n : Nat) : 1 ≤ (enc n).length := by
  by_cases h : n < 128
  · rw [enc_small h]; simp
  · rw [enc_big h]; simp

theorem enc_len (k n : Nat) (h : n < 128 ^ (k + 1)) : (enc n).length ≤ k + 1 := by
  induction k generalizing n with
  | zero => rw [enc_small (by simpa using h)]; simp
  | succ k ih =>
    by_cases h1 : n < 128
    · rw [enc_small h1]; simp
    · rw [enc_big h1]
      have := ih (n / 128) (by rw [Nat.div_lt_iff_lt_mul (by omega)]; rw [Nat.pow_succ] at h; exact h)
      simp; omega

theorem enc_len10 (n : Nat) (h : n < 18446744073709551616) : (enc n).length ≤ 10 := enc_len 9 n (by omega)

theorem enc_mono (m n : Nat) (h : m ≤ n) : (enc m).length ≤ (enc n).length := by
  induction n using Nat.strongRecOn generalizing m with
  | _ n ih =>
    by_cases h1 : m < 128
    · rw [enc_small h1]; have := enc_pos n; simpa using this
    · have h2 : ¬ n < 128 := by omega
      rw [enc_big h1, enc_big h2]
      have := ih (n / 128) (by omega) (m / 128) (by omega)
      simpa using this

theorem pow_step (i : Nat) : (128 : Int) ^ (i + 1) = 128 * 128 ^ i := by rw [Int.pow_succ]; omega
theorem pow_pos' (i : Nat) : 0 < (128 : Nat) ^ i := Nat.pow_pos (by omega)

/-- What is encoded is decoded, whatever follows. -/
theorem dec_enc (n : Nat) : ∀ (i : Nat) (v : Int) (tail : List Int), i ≤ 9 → n * 128 ^ i < 18446744073709551616 → (0 < i → 0 < n) →
    dec i v (enc n ++ tail) = (v + n * 128 ^ i, ((i + (enc n).length : Nat) : Int), 0) := by
  induction n using Nat.strongRecOn with
  | _ n ih =>
    intro i v tail hi hb hp
    have hpi := pow_pos' i
    have hi9 : i = 9 → n < 2 := by
      rintro rfl
      have e : (128 : Nat) ^ 9 = 9223372036854775808 := by simp
      rw [e] at hb
      omega
    by_cases h : n < 128
    · rw [enc_small h]
      simp only [List.cons_append, List.nil_append, dec]
      rw [if_neg (by rintro ⟨h1, h2⟩; have := hi9 h1; omega), if_pos (by omega), if_neg (by rintro ⟨h1, h2⟩; have := hp h2; omega)]
      simp
    · have hi' : i ≠ 9 := fun e => by have := hi9 e; omega
      rw [enc_big h]
      simp only [List.cons_append, dec]
      rw [if_neg (by rintro ⟨h1, _⟩; exact hi' h1), if_neg (by omega)]
      have hle : n / 128 * 128 ^ (i + 1) ≤ n * 128 ^ i := by
        rw [Nat.pow_succ, Nat.mul_comm (128 ^ i) 128, ← Nat.mul_assoc]
        exact Nat.mul_le_mul_right _ (Nat.div_mul_le_self n 128)
      rw [ih (n / 128) (by omega) (i + 1) _ tail (by omega) (by omega) (by omega)]
      have e : ((n % 128 + 128 : Nat) : Int) - 128 = (n % 128 : Nat) := by omega
      have e2 : (n : Int) = 128 * ((n / 128 : Nat) : Int) + ((n % 128 : Nat) : Int) := by omega
      rw [e, pow_step]
      simp only [Prod.mk.injEq, List.length_cons, and_true]
      refine ⟨?_, by push_cast; omega⟩
      rw [e2]
      generalize ((n / 128 : Nat) : Int) = q
      generalize ((n % 128 : Nat) : Int) = r
      generalize (128 : Int) ^ i = p
      have h1 : q * (128 * p) = 128 * q * p := by rw [← Int.mul_assoc, Int.mul_comm q 128]
      rw [h1, Int.add_mul]
      omega

/-- What is accepted is the encoding of what comes out. -/
theorem dec_ok : ∀ (xs : List Int) (i : Nat) (v u n : Int), i ≤ 9 → Bytes xs → dec i v xs = (u, n, 0) →
    ∃ m : Nat, u = v + m * 128 ^ i ∧ m < 2 ^ (64 - 7 * i) ∧ n = i + (enc m).length ∧ (enc m).length ≤ xs.length ∧ xs.take (enc m).length = enc m ∧ (0 < i → 0 < m)
  | [], i, v, u, n, _, _, h => by simp [dec] at h
  | c :: r, i, v, u, n, hi, hb, h => by
    have hc : isByte c := hb c (by simp)
    unfold isByte at hc
    unfold dec at h
    by_cases h1 : i = 9 ∧ 1 < c
    · rw [if_pos h1] at h; simp at h
    rw [if_neg h1] at h
    obtain ⟨q, rfl⟩ := Int.eq_ofNat_of_zero_le hc.1
    by_cases h2 : (q : Int) < 128
    · rw [if_pos h2] at h
      by_cases h3 : (q : Int) = 0 ∧ 0 < i
      · rw [if_pos h3] at h; simp at h
      rw [if_neg h3] at h
      simp only [Prod.mk.injEq, and_true] at h
      have hq : q < 128 := by omega
      refine ⟨q, h.1.symm, ?_, ?_, ?_, ?_, ?_⟩
      · by_cases h9 : i = 9
        · subst h9; have : q ≤ 1 := by omega
          have : (2 : Nat) ^ (64 - 7 * 9) = 2 := by simp
          omega
        · have : (2 : Nat) ^ 7 ≤ 2 ^ (64 - 7 * i) := Nat.pow_le_pow_right (by omega) (by omega)
          omega
      · rw [enc_small hq]; simp; omega
      · rw [enc_small hq]; simp
      · rw [enc_small hq]; simp
      · intro h0; omega
    · rw [if_neg h2] at h
      have h9 : i ≠ 9 := by intro e; exact h1 ⟨e, by omega⟩
      obtain ⟨m, hu, hlt, hn, hl, ht, hm⟩ := dec_ok r (i + 1) _ u n (by omega) (fun c hc => hb c (by simp [hc])) h
      have hm' := hm (by omega)
      have hq : q - 128 < 128 := by omega
      have hbig : ¬ (m * 128 + (q - 128)) < 128 := by omega
      have hd : (m * 128 + (q - 128)) / 128 = m := by omega
      have hr : (m * 128 + (q - 128)) % 128 + 128 = q := by omega
      refine ⟨m * 128 + (q - 128), ?_, ?_, ?_, ?_, ?_, fun _ => by omega⟩
      · rw [hu, pow_step]
        have e : ((m * 128 + (q - 128) : Nat) : Int) = m * 128 + ((q : Int) - 128) := by omega
        rw [e]
        generalize (128 : Int) ^ i = p
        have h1 : (m : Int) * (128 * p) = m * 128 * p := by rw [Int.mul_assoc]
        rw [h1, Int.add_mul]
        omega
      · have e1 : 64 - 7 * i = (64 - 7 * (i + 1)) + 7 := by omega
        rw [e1, Nat.pow_add]
        generalize 2 ^ (64 - 7 * (i + 1)) = z at hlt
        omega
      · rw [enc_big hbig, hd, hn]; simp; omega
      · rw [enc_big hbig, hd]; simp; exact hl
      · rw [enc_big hbig, hd, hr]; simp; exact ht

theorem dec_cases : ∀ (xs : List Int) (i : Nat) (v : Int), (∃ e : Int, (e = 1 ∨ e = 2 ∨ e = 9) ∧ dec i v xs = (0, 0, e)) ∨ ∃ u n, dec i v xs = (u, n, 0)
  | [], i, v => .inl ⟨1, .inl rfl, rfl⟩
  | c :: r, i, v => by
    unfold dec
    by_cases h1 : i = 9 ∧ 1 < c
    · rw [if_pos h1]; exact .inl ⟨9, .inr (.inr rfl), rfl⟩
    rw [if_neg h1]
    by_cases h2 : c < 128
    · rw [if_pos h2]
      by_cases h3 : c = 0 ∧ 0 < i
      · rw [if_pos h3]; exact .inl ⟨2, .inr (.inl rfl), rfl⟩
      · rw [if_neg h3]; exact .inr ⟨_, _, rfl⟩
    · rw [if_neg h2]; exact dec_cases r (i + 1) _

/-- An error with zeros, or the number whose encoding stands at the beginning. -/
theorem dec_two (xs : List Int) (hb : Bytes xs) : (∃ e : Int, (e = 1 ∨ e = 2 ∨ e = 9) ∧ dec 0 0 xs = (0, 0, e)) ∨
    ∃ m : Nat, m < 18446744073709551616 ∧ dec 0 0 xs = ((m : Int), ((enc m).length : Int), 0) ∧ (enc m).length ≤ xs.length ∧ xs.take (enc m).length = enc m := by
  rcases dec_cases xs 0 0 with h | ⟨u, n, h⟩
  · exact .inl h
  · obtain ⟨m, hu, hm, hn, hl, ht, _⟩ := dec_ok xs 0 0 u n (by omega) hb h
    refine .inr ⟨m, by simpa using hm, ?_, hl, ht⟩
    rw [h, hu, hn]; simp

theorem dec_enc0 (n : Nat) (tail : List Int) (h : n < 18446744073709551616) : dec 0 0 (enc n ++ tail) = ((n : Int), ((enc n).length : Int), 0) := by
  rw [dec_enc n 0 0 tail (by omega) (by simpa using h) (by omega)]; simp

/-- P1.3: the zigzag number. -/
def zig (v : Int) : Nat := (if 0 ≤ v then 2 * v else -2 * v - 1).toNat
def zag (u : Int) : Int := if u % 2 = 0 then u / 2 else -(u / 2) - 1
theorem zag_zig (v : Int) : zag (zig v) = v := by
  unfold zag zig
  by_cases h : 0 ≤ v
  · rw [if_pos h]; split <;> omega
  · rw [if_neg h]; split <;> omega
theorem zig_lt (v : Int) (h1 : -9223372036854775808 ≤ v) (h2 : v ≤ 9223372036854775807) : zig v < 18446744073709551616 := by
  unfold zig; split <;> omega

end Go.Proofs.Ytacbpphhkkmelaa.WM
