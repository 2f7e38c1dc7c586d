/-
  Reading what was encoded (P11.4, P11.5), whole or cut; the orders are strict and total (P11.3). No program. Conditions: the update is valid, its numbers are of 64 bits.
-/
import Derived.Test.YtcalnapdpnnljaaDoorURef5
import Derived.Test.YtcalnapdpnnljaaDoorURef2
namespace Go.Proofs.YtcalnapdpnnljaaDoor
open Go.RowKit
open WM (enc dec zig zag Bytes)

theorem dec_cut0 (n j : Nat) (h : n < 18446744073709551616) (hj : j < (enc n).length) : dec 0 0 ((enc n).take j) = (0, 0, 1) := JM.dec_cut n 0 0 j (by decide) (by simpa using h) hj

namespace UM
theorem decS_rt (s : ByteArray) (xs : List Int) (hs : s.size < 18446744073709551616) : decS (encS s ++ xs) = (nums s, ((encS s).length : Int), 0) := by
  have hd := WM.dec_enc0 s.size (nums s ++ xs) hs
  rw [← List.append_assoc] at hd
  have hnl := nums_length s
  show decS (enc s.size ++ nums s ++ xs) = _
  rw [decS_ok hd (by simp only [List.length_append]; omega)]
  unfold encS
  rw [List.append_assoc, List.drop_left, List.take_append_of_le_length (by omega), List.take_of_length_le (by omega), List.length_append, hnl]
theorem decS_cut (s : ByteArray) (j : Nat) (hs : s.size < 18446744073709551616) (hj : j < (encS s).length) : decS ((encS s).take j) = ([], 0, 1) := by
  unfold encS at hj ⊢
  rw [List.length_append, nums_length] at hj
  by_cases h : j < (enc s.size).length
  · rw [List.take_append_of_le_length (by omega)]
    exact decS_err (dec_cut0 s.size j hs h) (by decide)
  · have ht : (enc s.size ++ nums s).take j = enc s.size ++ (nums s).take (j - (enc s.size).length) := by
      rw [List.take_append, List.take_of_length_le (by omega)]
    rw [ht]
    have hd := WM.dec_enc0 s.size ((nums s).take (j - (enc s.size).length)) hs
    refine decS_short hd ?_
    rw [List.length_append, List.length_take, nums_length]
    omega
theorem decE5_enc (k : Int) (o f : ByteArray) (n : Int) (s : ByteArray) (pre tail : List Int) (hs : s.size < 18446744073709551616) :
    decE5 k o f n (pre ++ (encS s ++ tail)) pre.length = ((k, o, f, n, s), (pre ++ encS s).length, 0) := by
  unfold decE5
  rw [List.drop_left, decS_rt s tail hs, if_neg (by simp), strOfNums_nums, List.length_append]
  rfl
theorem decE5_cut (k : Int) (o f : ByteArray) (n : Int) (s : ByteArray) (pre : List Int) (j : Nat) (hs : s.size < 18446744073709551616) (hj : j < (encS s).length) :
    decE5 k o f n (pre ++ (encS s).take j) pre.length = (z0, 0, 1) := by
  unfold decE5
  rw [List.drop_left, decS_cut s j hs hj, if_pos (by decide)]
theorem decE4_enc (k : Int) (o f : ByteArray) (n : Int) (s : ByteArray) (pre tail : List Int) (hs : s.size < 18446744073709551616) (h1 : -9223372036854775808 ≤ n) (h2 : n ≤ 9223372036854775807) :
    decE4 k o f (pre ++ (enc (zig n) ++ (encS s ++ tail))) pre.length = ((k, o, f, n, s), (pre ++ (enc (zig n) ++ encS s)).length, 0) := by
  unfold decE4
  rw [List.drop_left, WM.dec_enc0 _ _ (WM.zig_lt n h1 h2), if_neg (by simp), WM.zag_zig]
  have := decE5_enc k o f n s (pre ++ enc (zig n)) tail hs
  rw [List.append_assoc, List.length_append, List.append_assoc] at this
  exact this
theorem decE4_cut (k : Int) (o f : ByteArray) (n : Int) (s : ByteArray) (pre : List Int) (j : Nat) (hs : s.size < 18446744073709551616) (h1 : -9223372036854775808 ≤ n) (h2 : n ≤ 9223372036854775807) (hj : j < (enc (zig n) ++ encS s).length) :
    decE4 k o f (pre ++ (enc (zig n) ++ encS s).take j) pre.length = (z0, 0, 1) := by
  unfold decE4
  rw [List.length_append] at hj
  rw [List.drop_left]
  by_cases h : j < (enc (zig n)).length
  · rw [List.take_append_of_le_length (by omega), dec_cut0 _ _ (WM.zig_lt n h1 h2) h, if_pos (by decide)]
  · rw [List.take_append, List.take_of_length_le (l := enc (zig n)) (by omega), WM.dec_enc0 _ _ (WM.zig_lt n h1 h2), if_neg (by simp)]
    have := decE5_cut k o f (zag (zig n : Int)) s (pre ++ enc (zig n)) (j - (enc (zig n)).length) hs (by omega)
    rw [List.append_assoc, List.length_append] at this
    exact this
theorem decE3_enc (k : Int) (o f : ByteArray) (n : Int) (s : ByteArray) (pre tail : List Int) (hf : f.size < 18446744073709551616) (hs : s.size < 18446744073709551616) (h1 : -9223372036854775808 ≤ n) (h2 : n ≤ 9223372036854775807) :
    decE3 k o (pre ++ (encS f ++ (enc (zig n) ++ (encS s ++ tail)))) pre.length = ((k, o, f, n, s), (pre ++ (encS f ++ (enc (zig n) ++ encS s))).length, 0) := by
  unfold decE3
  rw [List.drop_left, decS_rt f _ hf, if_neg (by simp), strOfNums_nums]
  have := decE4_enc k o f n s (pre ++ encS f) tail hs h1 h2
  rw [List.append_assoc, List.length_append, List.append_assoc] at this
  exact this
theorem decE3_cut (k : Int) (o f : ByteArray) (n : Int) (s : ByteArray) (pre : List Int) (j : Nat) (hf : f.size < 18446744073709551616) (hs : s.size < 18446744073709551616) (h1 : -9223372036854775808 ≤ n) (h2 : n ≤ 9223372036854775807) (hj : j < (encS f ++ (enc (zig n) ++ encS s)).length) :
    decE3 k o (pre ++ (encS f ++ (enc (zig n) ++ encS s)).take j) pre.length = (z0, 0, 1) := by
  unfold decE3
  rw [List.length_append] at hj
  rw [List.drop_left]
  by_cases h : j < (encS f).length
  · rw [List.take_append_of_le_length (by omega), decS_cut f j hf h, if_pos (by decide)]
  · rw [List.take_append, List.take_of_length_le (l := encS f) (by omega), decS_rt f _ hf, if_neg (by simp)]
    have := decE4_cut k o (strOfNums (nums f)) n s (pre ++ encS f) (j - (encS f).length) hs h1 h2 (by omega)
    rw [List.append_assoc, List.length_append] at this
    exact this
theorem decE2_enc (k : Int) (o f : ByteArray) (n : Int) (s : ByteArray) (pre tail : List Int) (ho : o.size < 18446744073709551616) (hf : f.size < 18446744073709551616) (hs : s.size < 18446744073709551616) (h1 : -9223372036854775808 ≤ n) (h2 : n ≤ 9223372036854775807) :
    decE2 k (pre ++ (encS o ++ (encS f ++ (enc (zig n) ++ (encS s ++ tail))))) pre.length = ((k, o, f, n, s), (pre ++ (encS o ++ (encS f ++ (enc (zig n) ++ encS s)))).length, 0) := by
  unfold decE2
  rw [List.drop_left, decS_rt o _ ho, if_neg (by simp), strOfNums_nums]
  have := decE3_enc k o f n s (pre ++ encS o) tail hf hs h1 h2
  rw [List.append_assoc, List.length_append, List.append_assoc] at this
  exact this
theorem decE2_cut (k : Int) (o f : ByteArray) (n : Int) (s : ByteArray) (pre : List Int) (j : Nat) (ho : o.size < 18446744073709551616) (hf : f.size < 18446744073709551616) (hs : s.size < 18446744073709551616) (h1 : -9223372036854775808 ≤ n) (h2 : n ≤ 9223372036854775807) (hj : j < (encS o ++ (encS f ++ (enc (zig n) ++ encS s))).length) :
    decE2 k (pre ++ (encS o ++ (encS f ++ (enc (zig n) ++ encS s))).take j) pre.length = (z0, 0, 1) := by
  unfold decE2
  rw [List.length_append] at hj
  rw [List.drop_left]
  by_cases h : j < (encS o).length
  · rw [List.take_append_of_le_length (by omega), decS_cut o j ho h, if_pos (by decide)]
  · rw [List.take_append, List.take_of_length_le (l := encS o) (by omega), decS_rt o _ ho, if_neg (by simp)]
    have := decE3_cut k (strOfNums (nums o)) f n s (pre ++ encS o) (j - (encS o).length) hf hs h1 h2 (by omega)
    rw [List.append_assoc, List.length_append] at this
    exact this
theorem encE_flat (k : Int) (o f : ByteArray) (n : Int) (s : ByteArray) : encE (k, o, f, n, s) = enc k.toNat ++ (encS o ++ (encS f ++ (enc (zig n) ++ encS s))) := by
  show JM.encN [k] ++ (encS o ++ encS f) ++ (enc (zig n) ++ encS s) = _
  rw [JM.encN_cons]
  simp only [JM.encN, List.flatMap_nil, List.append_nil, List.append_assoc]
theorem decE_enc {x : Ef} (h : errE x = 0) (hr : in64 x) (tail : List Int) : decE (encE x ++ tail) = (x, (encE x).length, 0) := by
  obtain ⟨k, o, f, n, s⟩ := x
  obtain ⟨g1, g2, g3, g4, g5⟩ := errE_ok h
  obtain ⟨m, rfl⟩ : ∃ m : Nat, k = (m : Int) := ⟨k.toNat, by omega⟩
  rw [encE_flat, Int.toNat_natCast]
  unfold decE
  rw [List.append_assoc, JM.num_enc m _ (by omega), if_neg (by simp)]
  have := decE2_enc (m : Int) o f n s (enc m) tail (by omega) (by omega) (by omega) hr.1 hr.2
  simp only [List.append_assoc] at this ⊢
  exact this
theorem decE_cut {x : Ef} (h : errE x = 0) (hr : in64 x) (j : Nat) (hj : j < (encE x).length) : decE ((encE x).take j) = (z0, 0, 1) := by
  obtain ⟨k, o, f, n, s⟩ := x
  obtain ⟨g1, g2, g3, g4, g5⟩ := errE_ok h
  obtain ⟨m, rfl⟩ : ∃ m : Nat, k = (m : Int) := ⟨k.toNat, by omega⟩
  rw [encE_flat, Int.toNat_natCast] at hj ⊢
  unfold decE
  rw [List.length_append] at hj
  by_cases h : j < (enc m).length
  · rw [List.take_append_of_le_length (by omega), JM.num_cut m j (by omega) h, if_pos (by decide)]
  · rw [List.take_append, List.take_of_length_le (l := enc m) (by omega), JM.num_enc m _ (by omega), if_neg (by simp)]
    exact decE2_cut (m : Int) o f n s (enc m) (j - (enc m).length) (by omega) (by omega) (by omega) hr.1 hr.2 (by omega)
theorem encEs_cons (x : Ef) (r : List Ef) : encEs (x :: r) = encE x ++ encEs r := List.flatMap_cons
theorem encEs_append (l m : List Ef) : encEs (l ++ m) = encEs l ++ encEs m := List.flatMap_append
theorem chE_enc {es : List Ef} (h : ∀ e ∈ es, errE e = 0) (hr : ∀ e ∈ es, in64 e) (pre tail : List Int) : ∀ k, k ≤ es.length → chE (pre ++ (encEs es ++ tail)) pre.length k = (es.take k, (pre ++ encEs (es.take k)).length, 0) := by
  intro k
  induction k with
  | zero => intro _; simp [chE, encEs]
  | succ k ih =>
    intro hk
    have hx := List.getElem?_eq_getElem (show k < es.length by omega)
    have hm := List.getElem_mem (show k < es.length by omega)
    generalize es[k] = x at hx hm
    have hsp : es = es.take k ++ (x :: es.drop (k + 1)) := by
      have h1 := List.take_append_drop k es
      rw [List.drop_eq_getElem_cons (show k < es.length by omega)] at h1
      rw [List.getElem?_eq_getElem (by omega)] at hx
      injection hx with hx
      rw [hx] at h1
      exact h1.symm
    have hd : (pre ++ (encEs es ++ tail)).drop (pre ++ encEs (es.take k)).length = encE x ++ (encEs (es.drop (k + 1)) ++ tail) := by
      have h2 : pre ++ (encEs es ++ tail) = (pre ++ encEs (es.take k)) ++ (encE x ++ (encEs (es.drop (k + 1)) ++ tail)) := by
        conv => lhs; rw [hsp]
        rw [encEs_append, encEs_cons]
        simp only [List.append_assoc]
      rw [h2, List.drop_left]
    rw [chE, ih (by omega), if_neg (by simp)]
    dsimp only
    rw [hd, decE_enc (h x hm) (hr x hm), if_neg (by simp), encEs_snoc hx]
    have ht : es.take (k + 1) = es.take k ++ [x] := by
      rw [← List.take_append_getElem (show k < es.length by omega)]
      rw [List.getElem?_eq_getElem (by omega)] at hx
      injection hx with hx
      rw [hx]
    rw [ht]
    simp only [List.length_append, Nat.add_assoc]
theorem cut_at : ∀ (es : List Ef) (j : Nat), j < (encEs es).length → ∃ (k : Nat) (x : Ef) (i : Nat), es[k]? = some x ∧ i < (encE x).length ∧ (encEs es).take j = encEs (es.take k) ++ (encE x).take i
  | [], j, h => by simp [encEs] at h
  | x :: r, j, h => by
    rw [encEs_cons, List.length_append] at h
    rw [encEs_cons]
    by_cases hj : j < (encE x).length
    · exact ⟨0, x, j, rfl, hj, by rw [List.take_append_of_le_length (by omega)]; rfl⟩
    · obtain ⟨k, y, i, h1, h2, h3⟩ := cut_at r (j - (encE x).length) (by omega)
      refine ⟨k + 1, y, i, h1, h2, ?_⟩
      rw [List.take_append, List.take_of_length_le (l := encE x) (by omega), h3, List.take_succ_cons, encEs_cons, List.append_assoc]
theorem chE_cut {es : List Ef} (h : ∀ e ∈ es, errE e = 0) (hr : ∀ e ∈ es, in64 e) (pre : List Int) (j : Nat) (hj : j < (encEs es).length) : (chE (pre ++ (encEs es).take j) pre.length es.length).2.2 = 1 := by
  obtain ⟨k, x, i, h1, h2, h3⟩ := cut_at es j hj
  have hk : k < es.length := (List.getElem?_eq_some_iff.1 h1).1
  have hm : x ∈ es := List.mem_of_getElem? h1
  rw [h3]
  have e1 := chE_enc (es := es.take k) (fun e he => h e (List.mem_of_mem_take he)) (fun e he => hr e (List.mem_of_mem_take he)) pre ((encE x).take i) k (by rw [List.length_take]; omega)
  rw [List.take_take, Nat.min_self] at e1
  have e2 : chE (pre ++ (encEs (es.take k) ++ (encE x).take i)) pre.length (k + 1) = (es.take k, (pre ++ encEs (es.take k)).length, 1) := by
    rw [chE, e1, if_neg (by simp)]
    dsimp only
    rw [← List.append_assoc, List.drop_left, decE_cut (h x hm) (hr x hm) i h2, if_pos (by decide)]
  rw [chE_err_le (show k + 1 ≤ es.length by omega) (by rw [e2]; simp), e2]
theorem hsmall {c q t : Int} {es : List Ef} (h : errU c q t es = 0) : ∀ x ∈ [c, q, t, (es.length : Int)], JM.small x := by
  obtain ⟨e1, e2, e3, e4, e5, e6, e7, e8⟩ := errU_ok h
  have e1' := isCl_ok e1
  intro x hx
  simp only [List.mem_cons, List.not_mem_nil, or_false] at hx
  unfold JM.small
  rcases hx with rfl | rfl | rfl | rfl <;> omega
/-- What was encoded is read again, whatever follows. -/
theorem decU_enc {c q t : Int} {es : List Ef} (h : errU c q t es = 0) (hr : ∀ e ∈ es, in64 e) (tail : List Int) : decU (encU c q t es ++ tail) = (0, (encU c q t es).length, (c, q, t), es) := by
  obtain ⟨e1, e2, e3, e4, e5, e6, e7, e8⟩ := errU_ok h
  have hm := JM.many_enc [c, q, t, (es.length : Int)] [] (encEs es ++ tail) (hsmall h)
  rw [List.nil_append, List.nil_append] at hm
  simp only [List.length_cons, List.length_nil, Nat.zero_add, Nat.reduceAdd] at hm
  have hc := chE_enc e8 hr (JM.encN [c, q, t, (es.length : Int)]) tail es.length (Nat.le_refl _)
  rw [List.take_length] at hc
  unfold decU encU
  rw [List.append_assoc, hm]
  rw [if_neg (by simp), if_neg (by show ¬ 4 < (es.length : Int); omega)]
  show finU c q t (chE _ _ (es.length : Int).toNat) = _
  rw [Int.toNat_natCast, hc]
  unfold finU
  rw [if_neg (by simp), if_neg (by simp [h])]
/-- A cut encoding is truncated. -/
theorem decU_cut {c q t : Int} {es : List Ef} (h : errU c q t es = 0) (hr : ∀ e ∈ es, in64 e) (j : Nat) (hj : j < (encU c q t es).length) : decU ((encU c q t es).take j) = badU 1 := by
  obtain ⟨e1, e2, e3, e4, e5, e6, e7, e8⟩ := errU_ok h
  unfold encU at hj ⊢
  rw [List.length_append] at hj
  by_cases hl : j < (JM.encN [c, q, t, (es.length : Int)]).length
  · have hm := JM.many_cut [c, q, t, (es.length : Int)] [] j (hsmall h) hl
    rw [List.nil_append] at hm
    simp only [List.length_cons, List.length_nil, Nat.zero_add, Nat.reduceAdd] at hm
    unfold decU
    rw [List.take_append_of_le_length (by omega), hm, if_pos (by decide)]
  · have hm := JM.many_enc [c, q, t, (es.length : Int)] [] ((encEs es).take (j - (JM.encN [c, q, t, (es.length : Int)]).length)) (hsmall h)
    rw [List.nil_append, List.nil_append] at hm
    simp only [List.length_cons, List.length_nil, Nat.zero_add, Nat.reduceAdd] at hm
    have hc := chE_cut e8 hr (JM.encN [c, q, t, (es.length : Int)]) (j - (JM.encN [c, q, t, (es.length : Int)]).length) (by omega)
    unfold decU
    rw [List.take_append, List.take_of_length_le (l := JM.encN [c, q, t, (es.length : Int)]) (by omega), hm]
    rw [if_neg (by simp), if_neg (by show ¬ 4 < (es.length : Int); omega)]
    show finU c q t (chE _ _ (es.length : Int).toNat) = _
    rw [Int.toNat_natCast]
    unfold finU
    rw [hc, if_pos (by decide)]
theorem encS_bytes (s : ByteArray) : Bytes (encS s) := Bytes.append (WM.enc_bytes _) (nums_bytes s)
theorem encN_bytes (l : List Int) : Bytes (JM.encN l) := by
  intro x hx
  obtain ⟨y, _, hy⟩ := List.mem_flatMap.1 hx
  exact WM.enc_bytes _ x hy
theorem encE_bytes (x : Ef) : Bytes (encE x) := by
  obtain ⟨k, o, f, n, s⟩ := x
  exact Bytes.append (Bytes.append (encN_bytes _) (Bytes.append (encS_bytes o) (encS_bytes f))) (Bytes.append (WM.enc_bytes _) (encS_bytes s))
theorem encU_bytes (c q t : Int) (es : List Ef) : Bytes (encU c q t es) := by
  refine Bytes.append (encN_bytes _) ?_
  intro x hx
  obtain ⟨y, _, hy⟩ := List.mem_flatMap.1 hx
  exact encE_bytes y x hy
theorem encU_pos (c q t : Int) (es : List Ef) : 1 ≤ (encU c q t es).length := by
  unfold encU
  rw [JM.encN_cons, List.length_append, List.length_append]
  have := WM.enc_pos c.toNat
  omega
theorem encU_len {c q t : Int} {es : List Ef} (h : errU c q t es = 0) (hr : ∀ e ∈ es, in64 e) : (encU c q t es).length ≤ 840 := by
  obtain ⟨e1, e2, e3, e4, e5, e6, e7, e8⟩ := errU_ok h
  have h1 := JM.encN_len _ (hsmall h)
  have h2 := encEs_len es e8 hr
  simp only [List.length_cons, List.length_nil] at h1
  unfold encU
  rw [List.length_append]
  omega
theorem decU_used {xs : List Int} (hb : Bytes xs) : (decU xs).2.1 ≤ xs.length := by
  unfold decU
  split
  · exact Nat.zero_le _
  split
  · exact Nat.zero_le _
  unfold finU
  split
  · exact Nat.zero_le _
  split
  · exact Nat.zero_le _
  exact chE_used hb (JM.many_small xs (0, 0) hb (Nat.zero_le _) 4).2 _

/-! The orders. -/
theorem cmpU_self (c q : Int) : cmpU c q c q = 0 := by unfold cmpU; (repeat' split) <;> omega
theorem cmpU_zero {c q d r : Int} : cmpU c q d r = 0 ↔ c = d ∧ q = r := by unfold cmpU; (repeat' split) <;> omega
theorem cmpU_trans {a b c d e f : Int} (h1 : cmpU a b c d < 0) (h2 : cmpU c d e f < 0) : cmpU a b e f < 0 := by
  unfold cmpU at *; (repeat' split at h1) <;> (repeat' split at h2) <;> (repeat' split) <;> omega
theorem bef_iff {c q t d r u : Int} : bef c q t d r u = true ↔ t < u ∨ (t = u ∧ (c < d ∨ (c = d ∧ q < r))) := by
  unfold bef cmpU
  rw [decide_eq_true_iff]
  (repeat' split) <;> omega
theorem bef_self (c q t : Int) : bef c q t c q t = false := by
  cases h : bef c q t c q t with
  | false => rfl
  | true => rw [bef_iff] at h; omega
theorem bef_both {c q t d r u : Int} (h : bef c q t d r u = true) : bef d r u c q t = false := by
  cases h2 : bef d r u c q t with
  | false => rfl
  | true => rw [bef_iff] at h h2; omega
theorem bef_total {c q t d r u : Int} (h : cmpU c q d r ≠ 0) (h2 : bef c q t d r u = false) : bef d r u c q t = true := by
  rw [bef_iff]
  have h3 : ¬ bef c q t d r u = true := by rw [h2]; simp
  rw [bef_iff] at h3
  rw [ne_eq, cmpU_zero] at h
  omega
theorem bef_trans {c q t d r u e s v : Int} (h1 : bef c q t d r u = true) (h2 : bef d r u e s v = true) : bef c q t e s v = true := by
  rw [bef_iff] at *; omega
theorem eqU_self (c q t : Int) (es : List Ef) : eqU c q t es c q t es = true := decide_eq_true ⟨rfl, rfl, rfl, rfl⟩
end UM

end Go.Proofs.YtcalnapdpnnljaaDoor
