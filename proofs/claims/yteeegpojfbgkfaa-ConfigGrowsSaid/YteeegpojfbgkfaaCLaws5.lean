/-
  The call of the law ConfigGrows: it returns true. Conditions: both lists read; their lengths are at most 2^62.
-/
import Derived.Test.YteeegpojfbgkfaaCAwake
namespace Go.Proofs.Yteeegpojfbgkfaa
open Go.RowKit
open JM (Chg)
open CM (Fp)
open VM (Ent)

namespace CM
/-- A valid configuration within another one is the part of it that its own counts name. -/
theorem sub_rs {c fs : List Fp} (hc : Ok c) (hf : Ok fs) (hs : ∀ x ∈ c, x ∈ fs) : c = rs fs (ct c) := by
  refine srt_ext hc.srt (rs_srt hf.srt _) (fun x => ⟨fun hx => rs_mem.2 ⟨hs x hx, ?_⟩, fun hx => ?_⟩)
  · have := errF_num (hc.all x hx)
    exact (hc.has x.1 x.2.1 (by omega)).1 (hasK_iff.2 ⟨x, hx, rfl, rfl⟩)
  · obtain ⟨h1, h2⟩ := rs_mem.1 hx
    have := errF_num (hf.all x h1)
    obtain ⟨y, hy, e1, e2⟩ := hasK_iff.1 ((hc.has x.1 x.2.1 (by omega)).2 h2)
    rw [← hf.srt.key (hs y hy) h1 ⟨e1, e2⟩]
    exact hy
theorem filter_one {fs : List Fp} (hf : Srt fs) {f : Fp} (h : f ∈ fs) : fs.filter (fun y => decide (y = f)) = [f] := by
  refine srt_ext (List.Pairwise.sublist List.filter_sublist hf) (List.pairwise_singleton _ _) (fun x => ?_)
  rw [List.mem_filter, List.mem_singleton, decide_eq_true_iff]
  constructor
  · exact fun hx => hx.2
  · rintro rfl; exact ⟨h, rfl⟩
theorem un_len_one {f : Fp} : ∀ {c : List Fp}, hasK c f.1 f.2.1 = false → (un c [f]).length = c.length + 1 := by
  intro c
  induction c with
  | nil => intro _; rw [nil_un]; rfl
  | cons x c ih =>
    intro h
    have h1 : ((decide (x.1 = f.1) && decide (x.2.1 = f.2.1)) || hasK c f.1 f.2.1) = false := h
    rw [Bool.or_eq_false_iff] at h1
    have h0 : ¬ JM.cmpP x.1 x.2.1 f.1 f.2.1 = 0 := by
      intro h3
      have := JM.cmpP_zero.1 h3
      rw [decide_eq_true this.1, decide_eq_true this.2] at h1
      cases h1.1
    rw [un_cons]
    by_cases h2 : JM.cmpP x.1 x.2.1 f.1 f.2.1 < 0
    · rw [if_pos h2, List.length_cons, ih h1.2, List.length_cons]
    · rw [if_neg h2, if_neg h0, un_nil]; rfl
/-- The next proposal of a pool, added. -/
theorem un_next {c fs : List Fp} (hc : Ok c) (hf : Ok fs) (hs : ∀ x ∈ c, x ∈ fs) {f : Fp} (h : f ∈ fs) (hk : hasK c f.1 f.2.1 = false) (hn : f.2.1 = ct c f.1 + 1) :
    Ok (un c [f]) ∧ (∀ x ∈ un c [f], x ∈ fs) ∧ (un c [f]).length = c.length + 1 := by
  have e : un c [f] = rs fs (fun a => if a = f.1 then ct c f.1 + 1 else ct c a) := by
    have e1 := sub_rs hc hf hs
    have e2 := filter_one hf.srt h
    have e3 := un_filter (p := fs) (fun y => decide (y.2.1 ≤ ct c y.1)) (fun y => decide (y = f)) hf.srt
    rw [e2] at e3
    rw [show fs.filter (fun y => decide (y.2.1 ≤ ct c y.1)) = c from e1.symm] at e3
    rw [e3]
    unfold rs
    refine List.filter_congr (fun y hy => ?_)
    rw [← Bool.decide_or]
    refine decide_eq_decide.2 ?_
    show y.2.1 ≤ ct c y.1 ∨ y = f ↔ y.2.1 ≤ (if y.1 = f.1 then ct c f.1 + 1 else ct c y.1)
    by_cases ha : y.1 = f.1
    · rw [if_pos ha, ha]
      constructor
      · rintro (h1 | h1)
        · omega
        · rw [h1]; omega
      · intro h1
        by_cases h2 : y.2.1 ≤ ct c f.1
        · exact .inl h2
        · exact .inr (hf.srt.key hy h ⟨ha, by omega⟩)
    · rw [if_neg ha]
      constructor
      · rintro (h1 | h1)
        · exact h1
        · exact absurd (by rw [h1]) ha
      · exact .inl
  refine ⟨by rw [e]; exact hf.rs _, fun x hx => by rw [e] at hx; exact (rs_mem.1 hx).1, un_len_one hk⟩
/-- A smaller valid configuration within a pool: there is a next proposal. -/
theorem next_some {c fs : List Fp} (hc : Ok c) (hf : Ok fs) (hs : ∀ x ∈ c, x ∈ fs) (hl : c.length < fs.length) : ∃ f ∈ fs, (addP c f).1 = 0 := by
  refine Classical.byContradiction (fun hno => ?_)
  have hall : ∀ a, ct fs a ≤ ct c a := by
    intro a
    refine Classical.byContradiction (fun h1 => ?_)
    have h0 := ct_pos c a
    obtain ⟨f, h2, h3, h4⟩ := hasK_iff.1 ((hf.has a (ct c a + 1) (by omega)).2 (by omega))
    refine hno ⟨f, h2, ?_⟩
    have h5 : hasK c f.1 f.2.1 = false := by
      cases h6 : hasK c f.1 f.2.1 with
      | false => rfl
      | true =>
        have := (hc.has f.1 f.2.1 (by omega)).1 h6
        rw [h3, h4] at this
        omega
    unfold addP
    rw [if_neg (by rw [hf.all f h2]; simp), if_neg (by rw [h5]; decide), if_neg (by rw [h3, h4]; simp)]
  have e1 := sub_rs hc hf hs
  have e2 : rs fs (ct c) = fs := by
    unfold rs
    refine List.filter_eq_self.2 (fun f hff => decide_eq_true ?_)
    have := errF_num (hf.all f hff)
    have := (hf.has f.1 f.2.1 (by omega)).1 (hasK_iff.2 ⟨f, hff, rfl, rfl⟩)
    have := hall f.1
    omega
  rw [e2] at e1
  rw [e1] at hl
  omega
theorem addP_fst {c fs : List Fp} {f : Fp} (hf : Ok fs) (h : f ∈ fs) : ((addP c f).1 = 0 ∧ hasK c f.1 f.2.1 = false ∧ f.2.1 = ct c f.1 + 1 ∧ (addP c f).2 = un c [f]) ∨ (addP c f).1 = 5 ∨ (addP c f).1 = 8 := by
  unfold addP
  rw [if_neg (by rw [hf.all f h]; simp)]
  by_cases h1 : hasK c f.1 f.2.1 = true
  · rw [if_pos h1]; exact .inr (.inl rfl)
  · rw [if_neg h1]
    by_cases h2 : f.2.1 = ct c f.1 + 1
    · rw [if_neg (by simpa using h2)]; exact .inl ⟨rfl, by simpa using h1, h2, rfl⟩
    · rw [if_pos h2]; exact .inr (.inr rfl)
end CM
theorem ix_nat (a k : Nat) : ix (a : Int) (k : Int) = ((a % k : Nat) : Int) := by
  unfold ix
  rw [Int.tmod_eq_emod_of_nonneg (by omega), Int.emod_emod_of_dvd _ (Int.dvd_refl _)]
  exact (Int.natCast_emod a k).symm
theorem rot {n r t : Nat} (hr : r < n) (ht : t < n) : ∃ j, j < n ∧ (r + j) % n = t := by
  by_cases h : r ≤ t
  · exact ⟨t - r, by omega, by rw [show r + (t - r) = t by omega]; exact Nat.mod_eq_of_lt ht⟩
  · exact ⟨t + n - r, by omega, by rw [show r + (t + n - r) = t + n by omega, Nat.add_mod_right]; exact Nat.mod_eq_of_lt ht⟩

set_option maxRecDepth 100000 in
set_option maxHeartbeats 8000000 in
theorem lConfigGrows (v u : Value) (l od : List Int) (w : World) (h : RdI w v l) (ho : RdI w u od) (hl : l.length ≤ 4611686018427387904) (hol : od.length ≤ 4611686018427387904) :
    Calls Try.prog 8 #[v, u] w fun e w' => e = .returned (.bool true) ∧ Below w.heap.size w w' := by
  have HP := Lib.hid (kPool v l w h hl)
  obtain ⟨ad, cp, rfl, _, _⟩ := h.shape
  obtain ⟨bd, bp, rfl, _, _⟩ := ho.shape
  have HO := Lib.hid ho
  have HOL := Lib.hid hol
  clear h hl ho hol
  go_enter Try.func8, Try.ntmps8
  go_wp2_with fail
  refine HP.out.mono ?_
  rintro e w1 ⟨vp, fs, rfl, hr, hok, hb⟩
  obtain ⟨pa, pc, rfl, _, _⟩ := hr.shape
  have hp9 := hok.nine
  have P := Lib.hid hr
  have HOK := Lib.hid hok
  have HB := Lib.hid hb
  obtain ⟨n, hn⟩ : ∃ n, n = fs.length := ⟨_, rfl⟩
  have P : Hid (RdF w1 (.slice pa n pc) fs) := by show RdF _ _ _; rw [hn]; exact P.out
  rw [← hn] at hp9 ⊢
  have HN := Lib.hid hn
  clear hr hok hb HP hn
  go_wp2
  go_loopw [6, 7] (fun c i wr => ∃ (k : Nat) (C : List Fp), k ≤ n ∧ i = .int .i64 k ∧ Hid (RdF wr c C) ∧ Hid (CM.Ok C) ∧ Hid (∀ x ∈ C, x ∈ fs) ∧ Hid (C.length = k) ∧ Hid (Below w1.heap.size w1 wr)) (fun _ i _ => n - (intOf i).toNat)
  case atStart => exact ⟨0, [], Nat.zero_le _, rfl, RdF.nil _, (by show CM.errL (0, 0) [] = 0; rfl), (fun x hx => by cases hx), rfl, Below.refl _ _⟩
  case round =>
    obtain ⟨k, C, hk, rfl, hC, hok, hsub, hlen, hbl⟩ := hrel
    obtain ⟨ca, cc, rfl, _, _⟩ := hC.out.shape
    by_cases hlt : k < n
    · have hq : (C.length : Int) < (n : Int) := by have := hlen.out; omega
      have hk200 : ¬ (200 : Int) < (k : Int) := by omega
      have hn1 : (1 : Int) ≤ (n : Int) := by omega
      have hA := kAt _ od k wr (HO.out.below (bnext HB.out hbl.out)) HOL.out
      have hI := fun w' => kIndex (atV od k) (n : Int) w' hn1 (by omega)
      have hrg := ix_range (n := atV od k) hn1
      obtain ⟨r, hr⟩ := Int.eq_ofNat_of_zero_le hrg.1
      rw [hr] at hI hrg
      have hrn : r < n := by omega
      generalize atV od k = X at hA hI
      have HA := Lib.hid hA
      have HI := Lib.hid hI
      clear hA hI hr hrg
      go_wp2_with fail
      refine HA.out.mono ?_
      rintro e w2 ⟨rfl, rfl⟩
      go_wp2_with fail
      refine (HI.out _).mono ?_
      rintro e w2 ⟨rfl, rfl⟩
      clear HA HI
      go_wp2
      obtain ⟨wo, hwo⟩ : ∃ wo, wo = wr := ⟨_, rfl⟩
      rw [← hwo] at hC hbl ⊢
      clear hwo
      go_loopw [6, 9, 10] (fun c ad i wr => ∃ (j : Nat) (A : Bool) (D : List Fp), j ≤ n ∧ i = .int .i64 j ∧ ad = .bool A ∧ Hid (RdF wr c D) ∧ Hid (CM.Ok D) ∧ Hid (∀ x ∈ D, x ∈ fs) ∧ Hid (A = true → D.length = k + 1) ∧ Hid (A = false → D.length = k ∧ ∀ t, t < j → ∀ f, fs[(r + t) % n]? = some f → (CM.addP D f).1 ≠ 0) ∧ Hid (Below w1.heap.size w1 wr)) (fun _ _ i _ => n - (intOf i).toNat)
      case atStart => exact ⟨0, false, C, Nat.zero_le _, rfl, rfl, hC.out, hok.out, hsub.out, (fun h => by cases h), (fun _ => ⟨hlen.out, fun t ht => absurd ht (Nat.not_lt_zero _)⟩), hbl.out⟩
      case round =>
        clear hC hok hsub hlen hbl hq
        obtain ⟨j, A, D, hj, rfl, rfl, hD, hok, hsub, hat, haf, hbl⟩ := hrel
        obtain ⟨da, dc, rfl, _, _⟩ := hD.out.shape
        cases A
        · by_cases hjn : j < n
          · have hqj : (j : Int) < (n : Int) := by omega
            have hlen := (haf.out rfl).1
            have hq9 : (r + j) % n < n := Nat.mod_lt _ (by omega)
            obtain ⟨q, hq⟩ : ∃ q, q = (r + j) % n := ⟨_, rfl⟩
            have hqn : q < fs.length := by rw [← HN.out, hq]; exact hq9
            have hIx := kIndex ((r : Int) + (j : Int)) (n : Int) wr hn1 (by omega)
            rw [show (r : Int) + (j : Int) = ((r + j : Nat) : Int) by omega, ix_nat, ← hq] at hIx
            rw [show ((r + j : Nat) : Int) = (r : Int) + (j : Int) by omega] at hIx
            have hk2 := List.getElem?_eq_getElem hqn
            generalize fs[q] = f at hk2
            have hmem := List.mem_of_getElem? hk2
            obtain ⟨x, m, cs⟩ := f
            obtain ⟨b, o, ea, el, ec, hi, hbw, c0, c1, c2, hrd⟩ := (P.out.below hbl.out).at_ q x m cs hk2
            have hadd := gAdd _ D x m (.slice ea el ec) cs wr hD.out hrd hok.out
            have HIX := Lib.hid hIx
            have hQ := Lib.hid hq
            have hqi : (q : Int) < (n : Int) := by rw [HN.out]; omega
            rcases CM.addP_fst (c := D) HOK.out hmem with ⟨e0, e1, e2, e3⟩ | h58
            · obtain ⟨n1, n2, n3⟩ := CM.un_next hok.out HOK.out hsub.out hmem e1 e2
              rw [e0, e3] at hadd
              generalize CM.un D [(x, m, cs)] = F at hadd n1 n2 n3
              have HADD := Lib.hid hadd
              have HN1 := Lib.hid n1
              have HN2 := Lib.hid n2
              have HN3 := Lib.hid (show F.length = k + 1 by rw [n3, hlen])
              have hne : ((F.length : Int) != (D.length : Int) + 1) = false := bne_f (by omega)
              have hDl : (D.length : Int) ≤ 100 := by omega
              clear hadd n1 n2 n3 e0 e1 e2 e3 hlen hq hIx hk2 hmem hat haf hq9 hrd
              go_wp2_with fail
              refine HIX.out.mono ?_
              rintro e w3 ⟨rfl, rfl⟩
              go_wp2_with fail
              refine HADD.out.mono ?_
              rintro e w3 ⟨v3, rfl, hr3, hb3⟩
              obtain ⟨fa, fc, rfl, _, _⟩ := hr3.shape
              have HF := Lib.hid hr3
              have HB3 := Lib.hid (bnext hbl.out hb3)
              have hV := gValidate _ F w3 hr3
              rw [show CM.errL (0, 0) F = 0 from HN1.out] at hV
              have HV := Lib.hid hV
              clear hr3 hb3 hV HADD HIX hD hok hsub hbl c0 c1 c2 hi hbw
              go_wp2_with fail
              refine HV.out.mono ?_
              rintro e w4 ⟨rfl, hb4⟩
              have HF4 := Lib.hid (HF.out.below hb4)
              have HB4 := Lib.hid (bnext HB3.out hb4)
              clear HV HF HB3 hb4 hne
              go_wp2
              go_roundw
              case rel => exact ⟨j + 1, true, F, by omega, by go_num, rfl, HF4, HN1, HN2, (fun _ => HN3.out), (fun h => by cases h), HB4⟩
              case measure => simp [intOf]; omega
            · have hnz : (CM.addP D (x, m, cs)).1 ≠ 0 := by rcases h58 with h | h <;> rw [h] <;> decide
              have HNO := Lib.hid (show ∀ t, t < j + 1 → ∀ f, fs[(r + t) % n]? = some f → (CM.addP D f).1 ≠ 0 from fun t ht f hf => by
                by_cases htj : t = j
                · subst htj
                  rw [← hq, hk2] at hf
                  cases hf
                  exact hnz
                · exact (haf.out rfl).2 t (by omega) f hf)
              have HLD := Lib.hid hlen
              obtain ⟨E, hE⟩ : ∃ E, E = (CM.addP D (x, m, cs)).1 := ⟨_, rfl⟩
              rw [← hE] at hadd h58 hnz
              have he0 : (E == 0) = false := beq_f hnz
              have HADD := Lib.hid (hadd.mono (fun e w' hh => (show ∃ v', e = .returned (.tuple #[v', .int .i64 E]) ∧ Below wr.heap.size wr w' from by obtain ⟨v', h1, _, h3⟩ := hh; exact ⟨v', h1, h3⟩)))
              have HDK := Lib.hid hD.out
              have HBL := Lib.hid hbl.out
              have hE58 : E = 5 ∨ E = 8 := h58
              clear hadd hE hnz h58 hlen hq hIx hk2 hmem hat haf hq9 hrd hD hbl
              rcases hE58 with rfl | rfl
              all_goals
                go_wp2_with fail
                refine HIX.out.mono ?_
                rintro e w3 ⟨rfl, rfl⟩
                go_wp2_with fail
                refine HADD.out.mono ?_
                rintro e w3 ⟨v3, rfl, hb3⟩
                have HD3 := Lib.hid (HDK.out.below hb3)
                have HB3 := Lib.hid (bnext HBL.out hb3)
                clear HADD HIX HDK HBL hb3 c0 c1 c2 hi hbw
                go_wp2
                go_roundw
                case rel => exact ⟨j + 1, false, D, by omega, by go_num, rfl, HD3, hok, hsub, (fun h => by cases h), (fun _ => ⟨HLD.out, HNO.out⟩), HB3⟩
                case measure => simp [intOf]; omega
          · exfalso
            obtain rfl : j = n := by omega
            obtain ⟨h1, h2⟩ := haf.out rfl
            obtain ⟨f, hf, h3⟩ := CM.next_some hok.out HOK.out hsub.out (by rw [h1, ← HN.out]; exact hlt)
            obtain ⟨t, ht, htf⟩ := List.getElem_of_mem hf
            obtain ⟨j', hj', hjt⟩ := rot (n := j) hrn (t := t) (by rw [HN.out]; exact ht)
            exact h2 j' hj' f (by rw [hjt, List.getElem?_eq_getElem ht, htf]) h3
        · have HLD := Lib.hid (hat.out rfl)
          clear hat haf
          by_cases hjn : j < n
          · have hqj : (j : Int) < (n : Int) := by omega
            go_wp2
            go_roundw
            case rel => exact ⟨k + 1, D, by omega, by go_num, hD, hok, hsub, HLD, hbl⟩
            case measure => simp [intOf]; omega
          · have hqj : ¬ (j : Int) < (n : Int) := by omega
            go_wp2
            go_roundw
            case rel => exact ⟨k + 1, D, by omega, by go_num, hD, hok, hsub, HLD, hbl⟩
            case measure => simp [intOf]; omega
    · have hkn : k = n := by omega
      have hq : ¬ (C.length : Int) < (n : Int) := by have := hlen.out; omega
      have heq : C = fs := CM.srt_len hok.out.srt HOK.out.srt hsub.out (by rw [hlen.out, hkn, HN.out]; exact Nat.le_refl _)
      have hE := rEqualConfig _ _ C fs wr hC.out (P.out.below hbl.out)
      rw [decide_eq_true heq] at hE
      have HE := Lib.hid hE
      have HBL := Lib.hid (bnext HB.out hbl.out)
      clear hE heq hkn hC hok hsub hlen hbl
      go_wp2_with fail
      refine HE.out.mono ?_
      rintro e w2 ⟨rfl, hb2⟩
      have HB2 := Lib.hid (bnext HBL.out hb2)
      clear HE HBL hb2
      go_wp2_with fail
      refine (cAwake w2).mono ?_
      rintro e w3 ⟨rfl, hb3⟩
      go_wp2
      go_ret
      exact ⟨rfl, bnext HB2.out hb3⟩

end Go.Proofs.Yteeegpojfbgkfaa
