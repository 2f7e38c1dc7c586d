/-
  Reading what was encoded (P11.4, P11.5), whole or cut; the orders are strict and total (P11.3). No program. Conditions: the update is valid, its numbers are of 64 bits.
  Plain mathematics of states (P12.1 to P12.6): lists of updates, their errors, vectors, unions, parts of a pool. Lists and integers alone. No conditions beyond those that each lemma names. (Written by mk_smath.py.)
  Plain mathematics of protocol messages (P14.1 to P14.3): their fields, which of them a kind uses, the error of a message, when two are equal. Lists, integers and truth values alone. No conditions beyond those that each lemma names.
  Plain mathematics of states: their vectors, parts of one pool, agreement. No conditions beyond those that each lemma names. (Written by mk_smath.py.)
  Plain mathematics of states: their encodings; what Add, Beyond and Merge answer. No conditions beyond those that each lemma names. (Written by mk_smath.py.)
-/
import Derived.Test.YtahcehbgfhdbjaaGreatDoorQEA3
import Derived.Test.YtahcehbgfhdbjaaGreatDoorQEA1
import Derived.Test.YtahcehbgfhdbjaaGreatDoorQEKF
namespace Go.Proofs.YtahcehbgfhdbjaaGreatDoor
open Go.RowKit
open WM (enc dec zig zag Bytes)

theorem dec_cut0 (n j : Nat) (h : n < 18446744073709551616) (hj : j < (enc n).length) : dec 0 0 ((enc n).take j) = (0, 0, 1) := JM.dec_cut n 0 0 j (by decide) (by simpa using h) hj

namespace UM
theorem decS_rt (s : ByteArray) (xs : List Int) (hs : s.size < 18446744073709551616) : decS (encS s ++ xs) = (nums s, ((encS s).length : Int), 0) := by
  have hd := WM.dec_enc0 s.size (nums s ++ xs) hs
  rw [← List.append_assoc] at hd
  have hnl := nums_length s
  show decS (enc s.size ++ nums s ++ xs) = _
  rw [decS_ok hd (by simp only [List.length_append]; omega)]
  unfold encS
  rw [List.append_assoc, List.drop_left, List.take_append_of_le_length (by omega), List.take_of_length_le (by omega), List.length_append, hnl]
theorem decS_cut (s : ByteArray) (j : Nat) (hs : s.size < 18446744073709551616) (hj : j < (encS s).length) : decS ((encS s).take j) = ([], 0, 1) := by
  unfold encS at hj ⊢
  rw [List.length_append, nums_length] at hj
  by_cases h : j < (enc s.size).length
  · rw [List.take_append_of_le_length (by omega)]
    exact decS_err (dec_cut0 s.size j hs h) (by decide)
  · have ht : (enc s.size ++ nums s).take j = enc s.size ++ (nums s).take (j - (enc s.size).length) := by
      rw [List.take_append, List.take_of_length_le (by omega)]
    rw [ht]
    have hd := WM.dec_enc0 s.size ((nums s).take (j - (enc s.size).length)) hs
    refine decS_short hd ?_
    rw [List.length_append, List.length_take, nums_length]
    omega
theorem decE5_enc (k : Int) (o f : ByteArray) (n : Int) (s : ByteArray) (pre tail : List Int) (hs : s.size < 18446744073709551616) :
    decE5 k o f n (pre ++ (encS s ++ tail)) pre.length = ((k, o, f, n, s), (pre ++ encS s).length, 0) := by
  unfold decE5
  rw [List.drop_left, decS_rt s tail hs, if_neg (by simp), strOfNums_nums, List.length_append]
  rfl
theorem decE5_cut (k : Int) (o f : ByteArray) (n : Int) (s : ByteArray) (pre : List Int) (j : Nat) (hs : s.size < 18446744073709551616) (hj : j < (encS s).length) :
    decE5 k o f n (pre ++ (encS s).take j) pre.length = (z0, 0, 1) := by
  unfold decE5
  rw [List.drop_left, decS_cut s j hs hj, if_pos (by decide)]
theorem decE4_enc (k : Int) (o f : ByteArray) (n : Int) (s : ByteArray) (pre tail : List Int) (hs : s.size < 18446744073709551616) (h1 : -9223372036854775808 ≤ n) (h2 : n ≤ 9223372036854775807) :
    decE4 k o f (pre ++ (enc (zig n) ++ (encS s ++ tail))) pre.length = ((k, o, f, n, s), (pre ++ (enc (zig n) ++ encS s)).length, 0) := by
  unfold decE4
  rw [List.drop_left, WM.dec_enc0 _ _ (WM.zig_lt n h1 h2), if_neg (by simp), WM.zag_zig]
  have := decE5_enc k o f n s (pre ++ enc (zig n)) tail hs
  rw [List.append_assoc, List.length_append, List.append_assoc] at this
  exact this
theorem decE4_cut (k : Int) (o f : ByteArray) (n : Int) (s : ByteArray) (pre : List Int) (j : Nat) (hs : s.size < 18446744073709551616) (h1 : -9223372036854775808 ≤ n) (h2 : n ≤ 9223372036854775807) (hj : j < (enc (zig n) ++ encS s).length) :
    decE4 k o f (pre ++ (enc (zig n) ++ encS s).take j) pre.length = (z0, 0, 1) := by
  unfold decE4
  rw [List.length_append] at hj
  rw [List.drop_left]
  by_cases h : j < (enc (zig n)).length
  · rw [List.take_append_of_le_length (by omega), dec_cut0 _ _ (WM.zig_lt n h1 h2) h, if_pos (by decide)]
  · rw [List.take_append, List.take_of_length_le (l := enc (zig n)) (by omega), WM.dec_enc0 _ _ (WM.zig_lt n h1 h2), if_neg (by simp)]
    have := decE5_cut k o f (zag (zig n : Int)) s (pre ++ enc (zig n)) (j - (enc (zig n)).length) hs (by omega)
    rw [List.append_assoc, List.length_append] at this
    exact this
theorem decE3_enc (k : Int) (o f : ByteArray) (n : Int) (s : ByteArray) (pre tail : List Int) (hf : f.size < 18446744073709551616) (hs : s.size < 18446744073709551616) (h1 : -9223372036854775808 ≤ n) (h2 : n ≤ 9223372036854775807) :
    decE3 k o (pre ++ (encS f ++ (enc (zig n) ++ (encS s ++ tail)))) pre.length = ((k, o, f, n, s), (pre ++ (encS f ++ (enc (zig n) ++ encS s))).length, 0) := by
  unfold decE3
  rw [List.drop_left, decS_rt f _ hf, if_neg (by simp), strOfNums_nums]
  have := decE4_enc k o f n s (pre ++ encS f) tail hs h1 h2
  rw [List.append_assoc, List.length_append, List.append_assoc] at this
  exact this
theorem decE3_cut (k : Int) (o f : ByteArray) (n : Int) (s : ByteArray) (pre : List Int) (j : Nat) (hf : f.size < 18446744073709551616) (hs : s.size < 18446744073709551616) (h1 : -9223372036854775808 ≤ n) (h2 : n ≤ 9223372036854775807) (hj : j < (encS f ++ (enc (zig n) ++ encS s)).length) :
    decE3 k o (pre ++ (encS f ++ (enc (zig n) ++ encS s)).take j) pre.length = (z0, 0, 1) := by
  unfold decE3
  rw [List.length_append] at hj
  rw [List.drop_left]
  by_cases h : j < (encS f).length
  · rw [List.take_append_of_le_length (by omega), decS_cut f j hf h, if_pos (by decide)]
  · rw [List.take_append, List.take_of_length_le (l := encS f) (by omega), decS_rt f _ hf, if_neg (by simp)]
    have := decE4_cut k o (strOfNums (nums f)) n s (pre ++ encS f) (j - (encS f).length) hs h1 h2 (by omega)
    rw [List.append_assoc, List.length_append] at this
    exact this
theorem decE2_enc (k : Int) (o f : ByteArray) (n : Int) (s : ByteArray) (pre tail : List Int) (ho : o.size < 18446744073709551616) (hf : f.size < 18446744073709551616) (hs : s.size < 18446744073709551616) (h1 : -9223372036854775808 ≤ n) (h2 : n ≤ 9223372036854775807) :
    decE2 k (pre ++ (encS o ++ (encS f ++ (enc (zig n) ++ (encS s ++ tail))))) pre.length = ((k, o, f, n, s), (pre ++ (encS o ++ (encS f ++ (enc (zig n) ++ encS s)))).length, 0) := by
  unfold decE2
  rw [List.drop_left, decS_rt o _ ho, if_neg (by simp), strOfNums_nums]
  have := decE3_enc k o f n s (pre ++ encS o) tail hf hs h1 h2
  rw [List.append_assoc, List.length_append, List.append_assoc] at this
  exact this
theorem decE2_cut (k : Int) (o f : ByteArray) (n : Int) (s : ByteArray) (pre : List Int) (j : Nat) (ho : o.size < 18446744073709551616) (hf : f.size < 18446744073709551616) (hs : s.size < 18446744073709551616) (h1 : -9223372036854775808 ≤ n) (h2 : n ≤ 9223372036854775807) (hj : j < (encS o ++ (encS f ++ (enc (zig n) ++ encS s))).length) :
    decE2 k (pre ++ (encS o ++ (encS f ++ (enc (zig n) ++ encS s))).take j) pre.length = (z0, 0, 1) := by
  unfold decE2
  rw [List.length_append] at hj
  rw [List.drop_left]
  by_cases h : j < (encS o).length
  · rw [List.take_append_of_le_length (by omega), decS_cut o j ho h, if_pos (by decide)]
  · rw [List.take_append, List.take_of_length_le (l := encS o) (by omega), decS_rt o _ ho, if_neg (by simp)]
    have := decE3_cut k (strOfNums (nums o)) f n s (pre ++ encS o) (j - (encS o).length) hf hs h1 h2 (by omega)
    rw [List.append_assoc, List.length_append] at this
    exact this
theorem encE_flat (k : Int) (o f : ByteArray) (n : Int) (s : ByteArray) : encE (k, o, f, n, s) = enc k.toNat ++ (encS o ++ (encS f ++ (enc (zig n) ++ encS s))) := by
  show JM.encN [k] ++ (encS o ++ encS f) ++ (enc (zig n) ++ encS s) = _
  rw [JM.encN_cons]
  simp only [JM.encN, List.flatMap_nil, List.append_nil, List.append_assoc]
theorem decE_enc {x : Ef} (h : errE x = 0) (hr : in64 x) (tail : List Int) : decE (encE x ++ tail) = (x, (encE x).length, 0) := by
  obtain ⟨k, o, f, n, s⟩ := x
  obtain ⟨g1, g2, g3, g4, g5⟩ := errE_ok h
  obtain ⟨m, rfl⟩ : ∃ m : Nat, k = (m : Int) := ⟨k.toNat, by omega⟩
  rw [encE_flat, Int.toNat_natCast]
  unfold decE
  rw [List.append_assoc, JM.num_enc m _ (by omega), if_neg (by simp)]
  have := decE2_enc (m : Int) o f n s (enc m) tail (by omega) (by omega) (by omega) hr.1 hr.2
  simp only [List.append_assoc] at this ⊢
  exact this
theorem decE_cut {x : Ef} (h : errE x = 0) (hr : in64 x) (j : Nat) (hj : j < (encE x).length) : decE ((encE x).take j) = (z0, 0, 1) := by
  obtain ⟨k, o, f, n, s⟩ := x
  obtain ⟨g1, g2, g3, g4, g5⟩ := errE_ok h
  obtain ⟨m, rfl⟩ : ∃ m : Nat, k = (m : Int) := ⟨k.toNat, by omega⟩
  rw [encE_flat, Int.toNat_natCast] at hj ⊢
  unfold decE
  rw [List.length_append] at hj
  by_cases h : j < (enc m).length
  · rw [List.take_append_of_le_length (by omega), JM.num_cut m j (by omega) h, if_pos (by decide)]
  · rw [List.take_append, List.take_of_length_le (l := enc m) (by omega), JM.num_enc m _ (by omega), if_neg (by simp)]
    exact decE2_cut (m : Int) o f n s (enc m) (j - (enc m).length) (by omega) (by omega) (by omega) hr.1 hr.2 (by omega)
theorem encEs_cons (x : Ef) (r : List Ef) : encEs (x :: r) = encE x ++ encEs r := List.flatMap_cons
theorem encEs_append (l m : List Ef) : encEs (l ++ m) = encEs l ++ encEs m := List.flatMap_append
theorem chE_enc {es : List Ef} (h : ∀ e ∈ es, errE e = 0) (hr : ∀ e ∈ es, in64 e) (pre tail : List Int) : ∀ k, k ≤ es.length → chE (pre ++ (encEs es ++ tail)) pre.length k = (es.take k, (pre ++ encEs (es.take k)).length, 0) := by
  intro k
  induction k with
  | zero => intro _; simp [chE, encEs]
  | succ k ih =>
    intro hk
    have hx := List.getElem?_eq_getElem (show k < es.length by omega)
    have hm := List.getElem_mem (show k < es.length by omega)
    generalize es[k] = x at hx hm
    have hsp : es = es.take k ++ (x :: es.drop (k + 1)) := by
      have h1 := List.take_append_drop k es
      rw [List.drop_eq_getElem_cons (show k < es.length by omega)] at h1
      rw [List.getElem?_eq_getElem (by omega)] at hx
      injection hx with hx
      rw [hx] at h1
      exact h1.symm
    have hd : (pre ++ (encEs es ++ tail)).drop (pre ++ encEs (es.take k)).length = encE x ++ (encEs (es.drop (k + 1)) ++ tail) := by
      have h2 : pre ++ (encEs es ++ tail) = (pre ++ encEs (es.take k)) ++ (encE x ++ (encEs (es.drop (k + 1)) ++ tail)) := by
        conv => lhs; rw [hsp]
        rw [encEs_append, encEs_cons]
        simp only [List.append_assoc]
      rw [h2, List.drop_left]
    rw [chE, ih (by omega), if_neg (by simp)]
    dsimp only
    rw [hd, decE_enc (h x hm) (hr x hm), if_neg (by simp), encEs_snoc hx]
    have ht : es.take (k + 1) = es.take k ++ [x] := by
      rw [← List.take_append_getElem (show k < es.length by omega)]
      rw [List.getElem?_eq_getElem (by omega)] at hx
      injection hx with hx
      rw [hx]
    rw [ht]
    simp only [List.length_append, Nat.add_assoc]
theorem cut_at : ∀ (es : List Ef) (j : Nat), j < (encEs es).length → ∃ (k : Nat) (x : Ef) (i : Nat), es[k]? = some x ∧ i < (encE x).length ∧ (encEs es).take j = encEs (es.take k) ++ (encE x).take i
  | [], j, h => by simp [encEs] at h
  | x :: r, j, h => by
    rw [encEs_cons, List.length_append] at h
    rw [encEs_cons]
    by_cases hj : j < (encE x).length
    · exact ⟨0, x, j, rfl, hj, by rw [List.take_append_of_le_length (by omega)]; rfl⟩
    · obtain ⟨k, y, i, h1, h2, h3⟩ := cut_at r (j - (encE x).length) (by omega)
      refine ⟨k + 1, y, i, h1, h2, ?_⟩
      rw [List.take_append, List.take_of_length_le (l := encE x) (by omega), h3, List.take_succ_cons, encEs_cons, List.append_assoc]
theorem chE_cut {es : List Ef} (h : ∀ e ∈ es, errE e = 0) (hr : ∀ e ∈ es, in64 e) (pre : List Int) (j : Nat) (hj : j < (encEs es).length) : (chE (pre ++ (encEs es).take j) pre.length es.length).2.2 = 1 := by
  obtain ⟨k, x, i, h1, h2, h3⟩ := cut_at es j hj
  have hk : k < es.length := (List.getElem?_eq_some_iff.1 h1).1
  have hm : x ∈ es := List.mem_of_getElem? h1
  rw [h3]
  have e1 := chE_enc (es := es.take k) (fun e he => h e (List.mem_of_mem_take he)) (fun e he => hr e (List.mem_of_mem_take he)) pre ((encE x).take i) k (by rw [List.length_take]; omega)
  rw [List.take_take, Nat.min_self] at e1
  have e2 : chE (pre ++ (encEs (es.take k) ++ (encE x).take i)) pre.length (k + 1) = (es.take k, (pre ++ encEs (es.take k)).length, 1) := by
    rw [chE, e1, if_neg (by simp)]
    dsimp only
    rw [← List.append_assoc, List.drop_left, decE_cut (h x hm) (hr x hm) i h2, if_pos (by decide)]
  rw [chE_err_le (show k + 1 ≤ es.length by omega) (by rw [e2]; simp), e2]
theorem hsmall {c q t : Int} {es : List Ef} (h : errU c q t es = 0) : ∀ x ∈ [c, q, t, (es.length : Int)], JM.small x := by
  obtain ⟨e1, e2, e3, e4, e5, e6, e7, e8⟩ := errU_ok h
  have e1' := isCl_ok e1
  intro x hx
  simp only [List.mem_cons, List.not_mem_nil, or_false] at hx
  unfold JM.small
  rcases hx with rfl | rfl | rfl | rfl <;> omega
/-- What was encoded is read again, whatever follows. -/
theorem decU_enc {c q t : Int} {es : List Ef} (h : errU c q t es = 0) (hr : ∀ e ∈ es, in64 e) (tail : List Int) : decU (encU c q t es ++ tail) = (0, (encU c q t es).length, (c, q, t), es) := by
  obtain ⟨e1, e2, e3, e4, e5, e6, e7, e8⟩ := errU_ok h
  have hm := JM.many_enc [c, q, t, (es.length : Int)] [] (encEs es ++ tail) (hsmall h)
  rw [List.nil_append, List.nil_append] at hm
  simp only [List.length_cons, List.length_nil, Nat.zero_add, Nat.reduceAdd] at hm
  have hc := chE_enc e8 hr (JM.encN [c, q, t, (es.length : Int)]) tail es.length (Nat.le_refl _)
  rw [List.take_length] at hc
  unfold decU encU
  rw [List.append_assoc, hm]
  rw [if_neg (by simp), if_neg (by show ¬ 4 < (es.length : Int); omega)]
  show finU c q t (chE _ _ (es.length : Int).toNat) = _
  rw [Int.toNat_natCast, hc]
  unfold finU
  rw [if_neg (by simp), if_neg (by simp [h])]
/-- A cut encoding is truncated. -/
theorem decU_cut {c q t : Int} {es : List Ef} (h : errU c q t es = 0) (hr : ∀ e ∈ es, in64 e) (j : Nat) (hj : j < (encU c q t es).length) : decU ((encU c q t es).take j) = badU 1 := by
  obtain ⟨e1, e2, e3, e4, e5, e6, e7, e8⟩ := errU_ok h
  unfold encU at hj ⊢
  rw [List.length_append] at hj
  by_cases hl : j < (JM.encN [c, q, t, (es.length : Int)]).length
  · have hm := JM.many_cut [c, q, t, (es.length : Int)] [] j (hsmall h) hl
    rw [List.nil_append] at hm
    simp only [List.length_cons, List.length_nil, Nat.zero_add, Nat.reduceAdd] at hm
    unfold decU
    rw [List.take_append_of_le_length (by omega), hm, if_pos (by decide)]
  · have hm := JM.many_enc [c, q, t, (es.length : Int)] [] ((encEs es).take (j - (JM.encN [c, q, t, (es.length : Int)]).length)) (hsmall h)
    rw [List.nil_append, List.nil_append] at hm
    simp only [List.length_cons, List.length_nil, Nat.zero_add, Nat.reduceAdd] at hm
    have hc := chE_cut e8 hr (JM.encN [c, q, t, (es.length : Int)]) (j - (JM.encN [c, q, t, (es.length : Int)]).length) (by omega)
    unfold decU
    rw [List.take_append, List.take_of_length_le (l := JM.encN [c, q, t, (es.length : Int)]) (by omega), hm]
    rw [if_neg (by simp), if_neg (by show ¬ 4 < (es.length : Int); omega)]
    show finU c q t (chE _ _ (es.length : Int).toNat) = _
    rw [Int.toNat_natCast]
    unfold finU
    rw [hc, if_pos (by decide)]
theorem encU_len {c q t : Int} {es : List Ef} (h : errU c q t es = 0) (hr : ∀ e ∈ es, in64 e) : (encU c q t es).length ≤ 840 := by
  obtain ⟨e1, e2, e3, e4, e5, e6, e7, e8⟩ := errU_ok h
  have h1 := JM.encN_len _ (hsmall h)
  have h2 := encEs_len es e8 hr
  simp only [List.length_cons, List.length_nil] at h1
  unfold encU
  rw [List.length_append]
  omega
theorem decU_used {xs : List Int} (hb : Bytes xs) : (decU xs).2.1 ≤ xs.length := by
  unfold decU
  split
  · exact Nat.zero_le _
  split
  · exact Nat.zero_le _
  unfold finU
  split
  · exact Nat.zero_le _
  split
  · exact Nat.zero_le _
  exact chE_used hb (JM.many_small xs (0, 0) hb (Nat.zero_le _) 4).2 _

/-! The orders. -/
end UM

end Go.Proofs.YtahcehbgfhdbjaaGreatDoor

namespace Go.Proofs.YtahcehbgfhdbjaaGreatDoor.SM
open UM (Ef)

/-- An update: client, number, tag, effects. -/
abbrev Fp := Int × Int × Int × List Ef
instance decEf : DecidableEq Ef := inferInstanceAs (DecidableEq (Int × ByteArray × ByteArray × Int × ByteArray))
instance decEs : DecidableEq (List Ef) := inferInstance
instance decRs : DecidableEq (Int × List Ef) := inferInstance
instance decQr : DecidableEq (Int × Int × List Ef) := inferInstance
instance decFp : DecidableEq Fp := inferInstanceAs (DecidableEq (Int × (Int × Int × List Ef)))
instance memFp (f : Fp) (a : List Fp) : Decidable (f ∈ a) := @List.instDecidableMemOfLawfulBEq Fp instBEqOfDecidableEq inferInstance f a
def errF (f : Fp) : Int := UM.errU f.1 f.2.1 f.2.2.1 f.2.2.2
/-- The error of a list of updates behind the identifier pr. -/
def errL : Int × Int → List Fp → Int
  | _, [] => 0
  | pr, f :: r =>
    if errF f ≠ 0 then errF f
    else if UM.cmpU f.1 f.2.1 pr.1 pr.2 ≤ 0 then 7
    else if 1 < f.2.1 ∧ ¬ (pr.1 = f.1 ∧ pr.2 = f.2.1 - 1) then 8
    else errL (f.1, f.2.1) r
def Ok (fs : List Fp) : Prop := errL (0, 0) fs = 0

theorem errF_num {f : Fp} (h : errF f = 0) : 101 ≤ f.1 ∧ f.1 ≤ 106 ∧ 1 ≤ f.2.1 ∧ f.2.1 ≤ 8 := by
  obtain ⟨h1, h2, h3, _⟩ := UM.errU_ok h
  have := UM.isCl_ok h1
  omega
theorem errL_cons {pr : Int × Int} {f : Fp} {r : List Fp} (h : errL pr (f :: r) = 0) :
    errF f = 0 ∧ 0 < UM.cmpU f.1 f.2.1 pr.1 pr.2 ∧ (1 < f.2.1 → pr.1 = f.1 ∧ pr.2 = f.2.1 - 1) ∧ errL (f.1, f.2.1) r = 0 := by
  unfold errL at h
  split at h
  · rename_i h1; exact absurd h h1
  · rename_i h1
    split at h
    · cases h
    · rename_i h2
      split at h
      · cases h
      · rename_i h3
        refine ⟨by omega, by omega, fun h4 => ?_, h⟩
        by_cases h5 : pr.1 = f.1 ∧ pr.2 = f.2.1 - 1
        · exact h5
        · exact absurd ⟨h4, h5⟩ h3
theorem cmpP_pos {a m b n : Int} : 0 < UM.cmpU a m b n ↔ b < a ∨ (a = b ∧ n < m) := by
  unfold UM.cmpU; (repeat' split) <;> omega
/-- The next update of a valid list: the same client and the next number, or a later one and number 1. -/
theorem next_of {pr : Int × Int} {f : Fp} {r : List Fp} (h : errL pr (f :: r) = 0) (h0 : 0 ≤ pr.2) : (f.1 = pr.1 ∧ f.2.1 = pr.2 + 1) ∨ (pr.1 < f.1 ∧ f.2.1 = 1) := by
  obtain ⟨h1, h2, h3, _⟩ := errL_cons h
  have := errF_num h1
  rw [cmpP_pos] at h2
  by_cases h4 : 1 < f.2.1
  · have := h3 h4
    omega
  · omega

/-- The order of identifiers. -/
def lt (x y : Fp) : Prop := x.1 < y.1 ∨ (x.1 = y.1 ∧ x.2.1 < y.2.1)
def Srt (fs : List Fp) : Prop := fs.Pairwise lt
theorem errL_all {fs : List Fp} : ∀ {pr : Int × Int}, errL pr fs = 0 → ∀ x ∈ fs, errF x = 0 := by
  induction fs with
  | nil => intro pr _ x hx; cases hx
  | cons f r ih =>
    intro pr h x hx
    obtain ⟨h1, _, _, h4⟩ := errL_cons h
    rcases List.mem_cons.1 hx with rfl | hx
    · exact h1
    · exact ih h4 x hx
theorem Ok.all {fs : List Fp} (h : Ok fs) : ∀ x ∈ fs, errF x = 0 := errL_all h
/-! How many updates of an client; which numbers occur. -/
def ct (fs : List Fp) (a : Int) : Int := ((fs.filter fun f => decide (f.1 = a)).length : Int)
def hasK (fs : List Fp) (a n : Int) : Bool := fs.any fun f => decide (f.1 = a) && decide (f.2.1 = n)
theorem ct_nil (a : Int) : ct [] a = 0 := rfl
theorem ct_cons (f : Fp) (r : List Fp) (a : Int) : ct (f :: r) a = (if f.1 = a then 1 else 0) + ct r a := by
  unfold ct
  by_cases h : f.1 = a
  · rw [List.filter_cons_of_pos (by simpa using h), if_pos h, List.length_cons]; omega
  · rw [List.filter_cons_of_neg (by simpa using h), if_neg h]; omega
theorem ct_pos (fs : List Fp) (a : Int) : 0 ≤ ct fs a := by unfold ct; omega
theorem hasK_iff {fs : List Fp} {a n : Int} : hasK fs a n = true ↔ ∃ f ∈ fs, f.1 = a ∧ f.2.1 = n := by
  unfold hasK; simp [List.any_eq_true]
theorem ct_low {fs : List Fp} : ∀ {pr : Int × Int} {a : Int}, errL pr fs = 0 → a < pr.1 → ct fs a = 0 := by
  induction fs with
  | nil => intro pr a _ _; rfl
  | cons f r ih =>
    intro pr a h ha
    obtain ⟨h1, h2, h3, h4⟩ := errL_cons h
    rw [cmpP_pos] at h2
    rw [ct_cons, if_neg (by omega), ih h4 (by simp only; omega)]
    rfl
theorem has_ct {fs : List Fp} : ∀ {pr : Int × Int} (a n : Int), errL pr fs = 0 → 0 ≤ pr.2 →
    (hasK fs a n = true ↔ (pr.1 ≤ a ∧ (if a = pr.1 then pr.2 else 0) < n ∧ n ≤ (if a = pr.1 then pr.2 else 0) + ct fs a)) := by
  induction fs with
  | nil =>
    intro pr a n _ _
    rw [ct_nil]
    constructor
    · intro h; cases h
    · rintro ⟨_, h1, h2⟩; omega
  | cons f r ih =>
    intro pr a n h h0
    have hn := next_of h h0
    obtain ⟨h1, h2, h3, h4⟩ := errL_cons h
    have hf := errF_num h1
    have ih := ih (pr := (f.1, f.2.1)) a n h4 (by simp only; omega)
    simp only at ih
    have e : hasK (f :: r) a n = ((decide (f.1 = a) && decide (f.2.1 = n)) || hasK r a n) := rfl
    rw [e, ct_cons, Bool.or_eq_true, ih, Bool.and_eq_true, decide_eq_true_iff, decide_eq_true_iff]
    by_cases hA : f.1 = a
    · subst hA
      simp only [if_true, true_and]
      have hp := ct_pos r f.1
      split <;> omega
    · have hz : a < f.1 → ct r a = 0 := fun hl => ct_low h4 hl
      have hp := ct_pos r a
      rw [if_neg (fun e => hA e.symm), if_neg hA]
      constructor
      · rintro (h5 | h5)
        · exact absurd h5.1 hA
        · rw [if_neg (by omega)]; omega
      · intro h5
        refine .inr ?_
        by_cases hl : a < f.1
        · rw [hz hl] at h5; omega
        · rw [if_neg (by omega)] at h5; omega
theorem Ok.has {fs : List Fp} (h : Ok fs) (a n : Int) (hn : 1 ≤ n) : hasK fs a n = true ↔ n ≤ ct fs a := by
  have := has_ct (pr := (0, 0)) a n h (Int.le_refl _)
  simp only at this
  rw [this]
  constructor
  · rintro ⟨_, _, h2⟩; split at h2 <;> omega
  · intro h2
    by_cases ha : a < 0
    · have := ct_low (pr := (0, 0)) h ha; omega
    · refine ⟨by omega, ?_, ?_⟩ <;> split <;> omega
theorem Ok.ct8 {fs : List Fp} (h : Ok fs) (a : Int) : ct fs a ≤ 8 := by
  by_cases h0 : ct fs a < 1
  · omega
  · obtain ⟨f, hf, h1, h2⟩ := hasK_iff.1 ((h.has a (ct fs a) (by omega)).2 (Int.le_refl _))
    have := errF_num (h.all f hf)
    omega
theorem ct_sum {fs : List Fp} (h : ∀ x ∈ fs, errF x = 0) : (fs.length : Int) = ct fs 101 + ct fs 102 + ct fs 103 + ct fs 104 + ct fs 105 + ct fs 106 := by
  induction fs with
  | nil => rfl
  | cons f r ih =>
    have h1 := errF_num (h f (by simp))
    have h2 := ih (fun x hx => h x (by simp [hx]))
    simp only [ct_cons]
    rw [List.length_cons]
    have : f.1 = 101 ∨ f.1 = 102 ∨ f.1 = 103 ∨ f.1 = 104 ∨ f.1 = 105 ∨ f.1 = 106 := by omega
    rcases this with e | e | e | e | e | e <;> simp [e] <;> omega
theorem Ok.all48 {fs : List Fp} (h : Ok fs) : fs.length ≤ 48 := by
  have := ct_sum h.all
  have h1 := h.ct8 101
  have h2 := h.ct8 102
  have h3 := h.ct8 103
  have h4 := h.ct8 104
  have h5 := h.ct8 105
  have h6 := h.ct8 106
  omega

/-! Parts of a list: the numbers up to a bound for each client. -/
def rs (p : List Fp) (g : Int → Int) : List Fp := p.filter fun f => decide (f.2.1 ≤ g f.1)
/-! The union: one walk over both. -/
def un : List Fp → List Fp → List Fp
  | a, [] => a
  | [], y :: b => y :: b
  | x :: a, y :: b => if UM.cmpU x.1 x.2.1 y.1 y.2.1 < 0 then x :: un a (y :: b) else if UM.cmpU x.1 x.2.1 y.1 y.2.1 = 0 then x :: un a b else y :: un (x :: a) b
termination_by a b => a.length + b.length
/-! What the functions answer. -/
def cons (a b : List Fp) : Bool := b.all fun f => decide (f ∈ a)
def conk (a b : List Fp) : Bool := b.all fun f => hasK a f.1 f.2.1
def Agr (a b : List Fp) : Prop := ∀ x ∈ a, ∀ y ∈ b, x.1 = y.1 → x.2.1 = y.2.1 → x = y
def meet (a b : List Fp) : List Fp := rs a (ct b)
def meetK (a b : List Fp) : List Fp := a.filter fun f => hasK b f.1 f.2.1
theorem cons_iff {a b : List Fp} : cons a b = true ↔ ∀ f ∈ b, f ∈ a := by unfold cons; simp
end Go.Proofs.YtahcehbgfhdbjaaGreatDoor.SM

namespace Go.Proofs.YtahcehbgfhdbjaaGreatDoor.NM
open VM (Ent)

/-- A message: kind, sender, receiver, process, number, round, mode; certificate; base; whether there is one; established; configuration, state, vector; more. -/
structure Ms where
  k : Int
  fr : Int
  tx : Int
  p : Int
  n : Int
  r : Int
  d : Int
  cf : List CM.Fp
  ct : List CM.Fp
  bf : List CM.Fp
  bt : List CM.Fp
  hb : Bool
  ef : List CM.Fp
  et : List CM.Fp
  cg : List CM.Fp
  st : List SM.Fp
  hv : List Ent
  mo : Bool
/-- Which fields a kind uses. -/
def uA (k : Int) : Bool := decide (k = 1 ∨ k = 2)
def uM (k : Int) : Bool := decide (k = 1)
def uS (k : Int) : Bool := decide (k = 1 ∨ k = 2 ∨ k = 5)
def uB (k : Int) : Bool := decide (k = 2 ∨ k = 5)
def uC (k : Int) : Bool := decide (¬ (k = 1 ∨ k = 2))
def uH (k : Int) : Bool := decide (k = 4)
def uO (k : Int) : Bool := decide (k = 5)
def emp (f t : List CM.Fp) : Bool := decide (f.length = 0) && decide (t.length = 0)
/-- A field that the kind does not use is not zero. -/
def bad (m : Ms) : Bool :=
  (!uA m.k && !decide (m.p = 0 ∧ m.n = 0)) || ((!uA m.k && decide (m.r ≠ 0)) || ((!uM m.k && decide (m.d ≠ 0)) ||
  ((!uA m.k && decide (0 < m.cg.length)) || ((!uS m.k && decide (0 < m.st.length)) || ((!uH m.k && decide (0 < m.hv.length)) || ((!uO m.k && m.mo) ||
  ((!uB m.k && (m.hb || (!emp m.bf m.bt || !emp m.ef m.et))) || (!uC m.k && !emp m.cf m.ct))))))))
def proc (x : Int) : Bool := JM.isSrv x || (UM.isCl x || JM.isAdm x)
/-- The error of a chunk's updates behind the identifier pr. -/
def chR : Int × Int → List SM.Fp → Int
  | _, [] => 0
  | pr, f :: l => if SM.errF f ≠ 0 then SM.errF f else if 0 ≤ UM.cmpU pr.1 pr.2 f.1 f.2.1 then 7 else chR (f.1, f.2.1) l
def chk (l : List SM.Fp) : Int := if 4 < l.length then 3 else chR (0, 0) l
def errB (m : Ms) : Int := if (!m.hb && !emp m.bf m.bt) = true then 2 else if CM.errC m.bf m.bt ≠ 0 then CM.errC m.bf m.bt else CM.errC m.ef m.et
def errX (m : Ms) : Int :=
  if (UM.isCl m.p = false ∧ JM.isAdm m.p = false) ∨ m.n < 1 ∨ 1000000 < m.n then 9
  else if m.r < 1 ∨ 1000000 < m.r then 9
  else if m.k = 1 ∧ (m.d < 1 ∨ 3 < m.d) then 10
  else if CM.errL (0, 0) m.cg ≠ 0 then CM.errL (0, 0) m.cg
  else if SM.errL (0, 0) m.st ≠ 0 then SM.errL (0, 0) m.st
  else if m.d = 1 ∧ 0 < m.st.length then 2
  else if m.k = 2 then errB m else 0
def errM (m : Ms) : Int :=
  if m.k < 1 ∨ 8 < m.k then 10
  else if proc m.fr = false ∨ proc m.tx = false then 9
  else if bad m = true then 2
  else if m.k = 1 ∨ m.k = 2 then errX m
  else if CM.errC m.cf m.ct ≠ 0 then CM.errC m.cf m.ct
  else if m.k = 4 then VM.err 0 m.hv
  else if m.k = 5 ∧ chk m.st ≠ 0 then chk m.st
  else if m.k = 5 then errB m
  else 0
/-- The plain fields of two messages are equal. -/
def scal (m m' : Ms) : Bool := decide (m.k = m'.k ∧ m.fr = m'.fr ∧ m.tx = m'.tx ∧ (m.p = m'.p ∧ m.n = m'.n) ∧ m.r = m'.r ∧ m.d = m'.d ∧ m.hb = m'.hb ∧ m.mo = m'.mo)
def eqm (m m' : Ms) : Bool :=
  scal m m' && ((decide (m.cf = m'.cf) && decide (m.ct = m'.ct)) && ((decide (m.bf = m'.bf) && decide (m.bt = m'.bt)) && ((decide (m.ef = m'.ef) && decide (m.et = m'.et)) &&
  (decide (m.cg = m'.cg) && (decide (m.st = m'.st) && decide (m.hv = m'.hv))))))
theorem eqm_self (m : Ms) : eqm m m = true := by unfold eqm scal; simp
end Go.Proofs.YtahcehbgfhdbjaaGreatDoor.NM

namespace Go.Proofs.YtahcehbgfhdbjaaGreatDoor.SM
open UM (Ef)
open VM (Ent)

/-- The reference's counting. -/
def vr (fs : List Fp) : List Ent := fs.foldl (fun v f => VM.wi v f.1 (VM.cnt v f.1 + 1)) []
/-- One update more, as config.Vector counts it. -/
def vput (v : List Ent) (f : Fp) : List Ent := if v.length ≠ 0 ∧ (v.getD (v.length - 1) (0, 0)).1 = f.1 then v.set (v.length - 1) (f.1, (v.getD (v.length - 1) (0, 0)).2 + 1) else v ++ [(f.1, 1)]
def vo (fs : List Fp) : List Ent := fs.foldl vput []
def mx (g k : Int → Int) : Int → Int := fun a => max (g a) (k a)
def mn (g k : Int → Int) : Int → Int := fun a => min (g a) (k a)
def agr1 (x : Fp) (b : List Fp) : Bool := b.all fun y => !(decide (UM.cmpU x.1 x.2.1 y.1 y.2.1 = 0) && !UM.eqU x.1 x.2.1 x.2.2.1 x.2.2.2 y.1 y.2.1 y.2.2.1 y.2.2.2)
def agr (a b : List Fp) : Bool := a.all fun x => agr1 x b
end Go.Proofs.YtahcehbgfhdbjaaGreatDoor.SM

namespace Go.Proofs.YtahcehbgfhdbjaaGreatDoor.SM
open UM (Ef)
open VM (Ent)
open WM (enc dec Bytes)

/-- The effects' numbers are of 64 bits. -/
def Fit (fs : List Fp) : Prop := ∀ f ∈ fs, ∀ e ∈ f.2.2.2, UM.in64 e
def encF (f : Fp) : List Int := UM.encU f.1 f.2.1 f.2.2.1 f.2.2.2
def flat (fs : List Fp) : List Int := fs.flatMap encF
def encL (fs : List Fp) : List Int := enc fs.length ++ flat fs
theorem flat_cons (f : Fp) (r : List Fp) : flat (f :: r) = encF f ++ flat r := List.flatMap_cons
theorem flat_snoc (fs : List Fp) (f : Fp) : flat (fs ++ [f]) = flat fs ++ encF f := by unfold flat; rw [List.flatMap_append]; simp
theorem encF_len {f : Fp} (h : errF f = 0) (hr : ∀ e ∈ f.2.2.2, UM.in64 e) : (encF f).length ≤ 840 := UM.encU_len h hr
theorem flat_len {fs : List Fp} (h : ∀ f ∈ fs, errF f = 0) (hr : Fit fs) : (flat fs).length ≤ fs.length * 840 := by
  induction fs with
  | nil => simp [flat]
  | cons f fs ih =>
    rw [flat_cons, List.length_append, List.length_cons]
    have := encF_len (h f (by simp)) (hr f (by simp))
    have := ih (fun g hg => h g (by simp [hg])) (fun g hg => hr g (by simp [hg]))
    omega

/-- What is read update by update: error, used, updates. -/
def rest (xs : List Int) : Nat → List Fp → Nat → Int × Nat × List Fp
  | 0, U, u => (0, u, U)
  | n + 1, U, u => if (UM.decU (xs.drop u)).1 ≠ 0 then ((UM.decU (xs.drop u)).1, 0, []) else rest xs n (U ++ [((UM.decU (xs.drop u)).2.2.1.1, (UM.decU (xs.drop u)).2.2.1.2.1, (UM.decU (xs.drop u)).2.2.1.2.2, (UM.decU (xs.drop u)).2.2.2)]) (u + (UM.decU (xs.drop u)).2.1)
def finL (r : Int × Nat × List Fp) : Int × Nat × List Fp := if r.1 ≠ 0 then (r.1, 0, []) else if errL (0, 0) r.2.2 ≠ 0 then (errL (0, 0) r.2.2, 0, []) else r
def decL (xs : List Int) : Int × Nat × List Fp :=
  if (dec 0 0 xs).2.2 ≠ 0 then ((dec 0 0 xs).2.2, 0, []) else if 48 < (dec 0 0 xs).1 then (3, 0, []) else finL (rest xs (dec 0 0 xs).1.toNat [] (dec 0 0 xs).2.1.toNat)
theorem rest_succ (xs : List Int) (n : Nat) (U : List Fp) (u : Nat) : rest xs (n + 1) U u = if (UM.decU (xs.drop u)).1 ≠ 0 then ((UM.decU (xs.drop u)).1, 0, []) else rest xs n (U ++ [((UM.decU (xs.drop u)).2.2.1.1, (UM.decU (xs.drop u)).2.2.1.2.1, (UM.decU (xs.drop u)).2.2.1.2.2, (UM.decU (xs.drop u)).2.2.2)]) (u + (UM.decU (xs.drop u)).2.1) := by
  rw [rest]
theorem rest_enc {fs : List Fp} : ∀ (pre tail : List Int) (U : List Fp), (∀ f ∈ fs, errF f = 0) → Fit fs → rest (pre ++ (flat fs ++ tail)) fs.length U pre.length = (0, (pre ++ flat fs).length, U ++ fs) := by
  induction fs with
  | nil => intro pre tail U _ _; simp [rest, flat]
  | cons f r ih =>
    intro pre tail U h hr
    have hd : (pre ++ (flat (f :: r) ++ tail)).drop pre.length = encF f ++ (flat r ++ tail) := by rw [List.drop_left, flat_cons, List.append_assoc]
    have h1 := UM.decU_enc (h f (by simp)) (hr f (by simp)) (flat r ++ tail)
    have h1' : UM.decU ((pre ++ (flat (f :: r) ++ tail)).drop pre.length) = (0, (encF f).length, (f.1, f.2.1, f.2.2.1), f.2.2.2) := by rw [hd]; exact h1
    rw [List.length_cons, rest_succ, h1', if_neg (by simp)]
    have h2 := ih (pre ++ encF f) tail (U ++ [f]) (fun g hg => h g (by simp [hg])) (fun g hg => hr g (by simp [hg]))
    rw [show pre ++ (flat (f :: r) ++ tail) = (pre ++ encF f) ++ (flat r ++ tail) by rw [flat_cons]; simp [List.append_assoc]]
    rw [List.length_append] at h2
    show rest _ r.length (U ++ [f]) (pre.length + (encF f).length) = _
    rw [h2, flat_cons]
    simp [List.append_assoc]
theorem decL_enc {fs : List Fp} (h : Ok fs) (hr : Fit fs) (tail : List Int) : decL (encL fs ++ tail) = (0, (encL fs).length, fs) := by
  have h9 := h.all48
  have hd : dec 0 0 (encL fs ++ tail) = ((fs.length : Int), ((enc fs.length).length : Int), 0) := by
    unfold encL
    rw [List.append_assoc]
    exact WM.dec_enc0 fs.length _ (by omega)
  unfold decL
  rw [hd]
  rw [if_neg (by simp), if_neg (by simp; omega)]
  have hr := rest_enc (enc fs.length) tail [] h.all hr
  rw [show enc fs.length ++ (flat fs ++ tail) = encL fs ++ tail by unfold encL; rw [List.append_assoc]] at hr
  simp only [Int.toNat_natCast]
  rw [hr]
  unfold finL
  rw [if_neg (by simp)]
  simp only [List.nil_append]
  rw [if_neg (by simp; exact h)]
  rfl
theorem dec_num {xs : List Int} (hb : Bytes xs) : (∃ e : Int, e ≠ 0 ∧ dec 0 0 xs = (0, 0, e)) ∨ ∃ m : Nat, m < 18446744073709551616 ∧ dec 0 0 xs = ((m : Int), ((enc m).length : Int), 0) ∧ (enc m).length ≤ xs.length := by
  rcases WM.dec_two xs hb with ⟨e, he, h⟩ | ⟨m, hm, h, hl, _⟩
  · exact .inl ⟨e, by omega, h⟩
  · exact .inr ⟨m, hm, h, hl⟩

/-- What Add answers: error and state. -/
def addU (c : List Fp) (f : Fp) : Int × List Fp :=
  if errF f ≠ 0 then (errF f, []) else if hasK c f.1 f.2.1 = true then (5, []) else if f.2.1 ≠ ct c f.1 + 1 then (8, []) else (0, un c [f])
/-- The updates of s that a vector does not cover. -/
def beyAll (s : List Fp) (g : Int → Int) : List Fp := s.filter fun f => decide (g f.1 < f.2.1)
/-- What Beyond answers. -/
def bey (s : List Fp) (g : Int → Int) (n : Int) : List Fp × Bool := ((beyAll s g).take n.toNat, decide (n.toNat < (beyAll s g).length))
/-- One update merged: the state, how many were added, how many dropped. -/
def mrg1 (p : List Fp × Int × Int) (f : Fp) : List Fp × Int × Int :=
  if errF f ≠ 0 ∨ ct p.1 f.1 + 1 < f.2.1 then (p.1, p.2.1, p.2.2 + 1) else if hasK p.1 f.1 f.2.1 = true then p else (un p.1 [f], p.2.1 + 1, p.2.2)
def mrg (s : List Fp) (l : List Fp) : List Fp × Int × Int := l.foldl mrg1 (s, 0, 0)
end Go.Proofs.YtahcehbgfhdbjaaGreatDoor.SM
