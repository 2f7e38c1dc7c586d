/-
  The call of the laws' own Updates: it returns a valid state. Conditions: the list of numbers reads. (Written by mk_skit.py.)
-/
import Derived.Test.YtdfablboenfblaaDoorQSBase
import Derived.Test.YtdfablboenfblaaDoorQSM1
namespace Go.Proofs.YtdfablboenfblaaDoor.ST
open Go.RowKit
open UM (Ef)
open SM (Fp)

/-! The identifiers: each client's numbers one after the other. -/
def Nxt (pr : Int × Int) (q : Up) : Prop := (q.1 = pr.1 ∧ q.2.1 = pr.2 + 1) ∨ (pr.1 < q.1 ∧ q.2.1 = 1)
def Chn : Int × Int → List Up → Prop
  | _, [] => True
  | pr, q :: r => Nxt pr q ∧ Chn (q.1, q.2.1) r
def endK : Int × Int → List Up → Int × Int
  | pr, [] => pr
  | _, q :: r => endK (q.1, q.2.1) r
theorem Chn.snoc {q : Up} : ∀ {qs : List Up} {pr : Int × Int}, Chn pr qs → Nxt (endK pr qs) q → Chn pr (qs ++ [q])
  | [], _, _, k => ⟨k, trivial⟩
  | _ :: _, _, h, k => ⟨h.1, Chn.snoc h.2 k⟩
theorem endK_snoc {q : Up} : ∀ {qs : List Up} {pr : Int × Int}, endK pr (qs ++ [q]) = (q.1, q.2.1)
  | [], _ => rfl
  | _ :: qs, _ => endK_snoc (qs := qs)
def EndAt (e : Int × Int) (j i : Nat) : Prop := (i = 0 ∧ e.1 < 101 + (j : Int)) ∨ (0 < i ∧ e = (101 + (j : Int), (i : Int)))
def GoodL (base : Nat) (w : World) (qs : List Up) (j i : Nat) : Prop := (∀ q ∈ qs, GoodU base w q) ∧ Chn (0, 0) qs ∧ EndAt (endK (0, 0) qs) j i
theorem GoodL.below {base : Nat} {w w' : World} {qs : List Up} {j i : Nat} (h : GoodL base w qs j i) (hb : Below w.heap.size w w') : GoodL base w' qs j i := ⟨fun q hq => (h.1 q hq).below hb, h.2⟩
theorem GoodL.keep {base : Nat} {w w' : World} {qs : List Up} {j i : Nat} (h : GoodL base w qs j i) (hk : KeepsX 43 w w') : GoodL base w' qs j i := ⟨fun q hq => (h.1 q hq).keep hk, h.2⟩
theorem GoodL.snoc {base : Nat} {w : World} {qs : List Up} {j i : Nat} {r : Int × Option Addr × Nat × Nat} (h : GoodL base w qs j i) (k : GoodU base w (101 + (j : Int), (i : Int) + 1, r)) : GoodL base w (qs ++ [(101 + (j : Int), (i : Int) + 1, r)]) j (i + 1) := by
  obtain ⟨h1, h2, h3⟩ := h
  refine ⟨fun q hq => ?_, h2.snoc ?_, .inr ⟨by omega, by rw [endK_snoc]; simp⟩⟩
  · rcases List.mem_append.1 hq with hq | hq
    · exact h1 q hq
    · rw [List.mem_singleton] at hq; subst hq; exact k
  · unfold Nxt
    rcases h3 with ⟨rfl, h3⟩ | ⟨_, h3⟩
    · exact .inr ⟨h3, by simp⟩
    · rw [h3]; exact .inl ⟨rfl, rfl⟩
theorem GoodL.next {base : Nat} {w : World} {qs : List Up} {j i : Nat} (h : GoodL base w qs j i) : GoodL base w qs (j + 1) 0 := by
  obtain ⟨h1, h2, h3⟩ := h
  refine ⟨h1, h2, .inl ⟨rfl, ?_⟩⟩
  rcases h3 with ⟨_, h3⟩ | ⟨_, h3⟩
  · omega
  · rw [h3]; simp only; omega
theorem good_ok {base : Nat} {w : World} : ∀ {qs : List Up} {pr : Int × Int}, (∀ q ∈ qs, GoodU base w q) → Chn pr qs → ∃ fs, Tel w qs fs ∧ SM.errL pr fs = 0 ∧ SM.Fit fs
  | [], _, _, _ => ⟨[], trivial, rfl, fun f hf => by cases hf⟩
  | q :: qs, pr, h, hc => by
    obtain ⟨fs, h1, h2, h6⟩ := good_ok (fun q hq => h q (List.mem_cons_of_mem _ hq)) hc.2
    obtain ⟨es, h3, h4, h5⟩ := h q (by simp)
    have hn := hc.1
    unfold Nxt at hn
    refine ⟨(q.1, q.2.1, q.2.2.1, es) :: fs, ⟨⟨rfl, rfl, rfl, h3.rd⟩, h1⟩, SM.errL_mk h4 ?_ (fun h5 => ?_) h2, fun f hf => ?_⟩
    · rw [SM.cmpP_pos]; simp only; omega
    · simp only at h5 ⊢; omega
    · rcases List.mem_cons.1 hf with rfl | hf
      · exact h5
      · exact h6 f hf

set_option maxRecDepth 100000 in
set_option maxHeartbeats 4000000 in
theorem kUpdatesV (v : Value) (l : List Int) (w : World) (h : RdI w v l) (hl : l.length ≤ 4611686018427387904) :
    Calls Tryd.prog 26 #[v] w fun e w' => ∃ u fs, e = .returned u ∧ RdF w' u fs ∧ SM.Ok fs ∧ SM.Fit fs ∧ Below w.heap.size w w' := by
  obtain ⟨ad, cp, rfl, hcp, _⟩ := h.shape
  have HV := Lib.hid h
  have hl9 : l.length ≤ 9223372036854775807 := by omega
  clear h hl
  go_enter Tryd.func26, Tryd.ntmps26
  go_wp2
  go_loopw [3, 4] (fun u a wr => ∃ (j : Nat) (qs : List Up), j ≤ 3 ∧ a = .int .i64 j ∧ qs.length ≤ 24 * j ∧ Hid (OwnUp w.heap.size wr u qs) ∧ Hid (GoodL w.heap.size wr qs j 0) ∧ Hid (Below w.heap.size w wr)) (fun _ a _ => 3 - (intOf a).toNat)
  case atStart => exact ⟨0, [], by decide, rfl, by decide, OwnG.nil hlUp _ _ _, ⟨(fun q hq => by cases hq), trivial, .inl ⟨rfl, (by decide : (0 : Int) < 101 + ((0 : Nat) : Int))⟩⟩, Below.refl _ _⟩
  case round =>
    obtain ⟨j, qs, hj, rfl, hql, ho, hgd, hb⟩ := hrel
    by_cases hj3 : j < 3
    · have hqj : (j : Int) < 3 := by omega
      go_wp2
      obtain ⟨wo, rfl⟩ : ∃ wo, wo = wr := ⟨wr, rfl⟩
      go_loopw [3, 5, 6] (fun u s a wr => ∃ (i sq : Nat) (qs : List Up), i ≤ 24 ∧ i ≤ l.length ∧ sq ≤ 8 ∧ s = .int .i64 sq ∧ a = .int .i64 i ∧ qs.length ≤ 24 * j + i ∧ Hid (OwnUp w.heap.size wr u qs) ∧ Hid (GoodL w.heap.size wr qs j sq) ∧ Hid (Below w.heap.size w wr)) (fun _ _ a _ => 24 - (intOf a).toNat)
      case atStart => exact ⟨0, 0, qs, by decide, Nat.zero_le _, by decide, rfl, rfl, by omega, ho.out, hgd.out, hb.out⟩
      case round =>
        clear ho hgd hb hql
        obtain ⟨i, sq, qs, hi, hil, hsq, rfl, rfl, hql, ho, hgd, hb⟩ := hrel
        by_cases hi1 : i < l.length
        case neg =>
          have hq1 : ¬ (i : Int) < (l.length : Int) := by omega
          go_wp2
          go_roundw
          case rel => exact ⟨j + 1, qs, by omega, by go_num, by omega, ho, Lib.hid hgd.out.next, hb⟩
          case measure => simp [intOf]; omega
        by_cases hi2 : i < 24
        case neg =>
          have hq1 : (i : Int) < (l.length : Int) := by omega
          have hq2 : ¬ (i : Int) < 24 := by omega
          go_wp2
          go_roundw
          case rel => exact ⟨j + 1, qs, by omega, by go_num, by omega, ho, Lib.hid hgd.out.next, hb⟩
          case measure => simp [intOf]; omega
        have hq1 : (i : Int) < (l.length : Int) := by omega
        have hq2 : (i : Int) < 24 := by omega
        have hat := List.getElem?_eq_getElem hi1
        generalize l[i] = X at hat
        obtain ⟨b, o, hix, hbb, hc⟩ := atI (HV.out.below hb.out) i X hat
        have HD := Lib.hid (fun w' => kDigit X 3 0 w' (by decide) (by decide) (by decide))
        have HI := Lib.hid (fun w' => kIndex X 1099511627776 w' (by decide) (by decide))
        have hir := ix_range (n := X) (show (1 : Int) ≤ 1099511627776 by decide)
        generalize dg X 3 0 = d at HD
        generalize ix X 1099511627776 = J at HI hir
        clear hat hbb
        go_wp2_with fail
        refine (HD.out _).mono ?_
        rintro e w2 ⟨rfl, rfl⟩
        clear HD
        by_cases hd : d = j
        case neg =>
          have hd' : ((d : Int) == (j : Int)) = false := by simp; omega
          clear hc hix HI
          go_wp2
          go_roundw
          case rel => exact ⟨i + 1, sq, qs, by omega, by omega, hsq, rfl, by go_num, by omega, ho, hgd, hb⟩
          case measure => simp [intOf]; omega
        have hd' : ((d : Int) == (j : Int)) = true := by simp [hd]
        by_cases hs8 : sq < 8
        case neg =>
          have hs' : ¬ (sq : Int) < 8 := by omega
          clear hc hix HI
          go_wp2
          go_roundw
          case rel => exact ⟨i + 1, sq, qs, by omega, by omega, hsq, rfl, by go_num, by omega, ho, hgd, hb⟩
          case measure => simp [intOf]; omega
        have hs' : (sq : Int) < 8 := by omega
        have hY : 0 ≤ J.tdiv 3 ∧ J.tdiv 3 ≤ J := by
          rw [Int.tdiv_eq_ediv_of_nonneg hir.1]
          exact ⟨Int.ediv_nonneg hir.1 (by omega), Int.ediv_le_self _ hir.1⟩
        obtain ⟨Y, hYd⟩ : ∃ Y, J.tdiv 3 = Y := ⟨_, rfl⟩
        rw [hYd] at hY
        have hYw : IntKind.i64.wrap Y = Y := IntWalk.i64_in _ (by omega)
        have HU := Lib.hid (fun w' => kUpdate (101 + (j : Int)) ((sq : Int) + 1) Y w' (decide_eq_true (by omega)) (by omega))
        clear hY hir hd
        go_wp2_with fail
        refine (HI.out _).mono ?_
        rintro e w2 ⟨rfl, rfl⟩
        clear HI
        go_wp2_with fail
        refine (HU.out _).mono ?_
        rintro e w2 ⟨t, sv, es, rfl, hoe, herr, h64, hb2⟩
        obtain ⟨ea, ec, rfl, _, _⟩ := hoe.rd.shape
        have hsz := hb.out.size
        have HO2 := Lib.hid (ho.out.below hb2)
        have HG2 := Lib.hid (hgd.out.below hb2)
        have HE2 := Lib.hid (show GoodU w.heap.size w2 (101 + (j : Int), (sq : Int) + 1, t, ea, es.length, ec) from ⟨es, hoe.mono hsz, herr, h64⟩)
        have HB2 := Lib.hid (bnext hb.out hb2)
        have hsz2 := HB2.out.size
        have hlq : qs.length ≤ 1073741824 := by omega
        clear hoe herr h64 hb2 ho hgd hb HU hc hix hsz
        go_wp2_with (at_builtin; refine wp_appG1 upE (101 + (j : Int), (sq : Int) + 1, t, ea, es.length, ec) rfl _ _ rfl rfl HO2.out rfl hlq hsz2 ?_; intro v6 w6 ho6 hb6 hk6 _)
        have HO6 := Lib.hid ho6
        have HB6 := Lib.hid (HB2.out.trans hb6)
        have HG6 := Lib.hid ((HG2.out.snoc HE2.out).keep hk6)
        clear ho6 hb6 hk6 HO2 HG2 HE2 HB2
        go_roundw
        case rel => exact ⟨i + 1, sq + 1, qs ++ [(101 + (j : Int), (sq : Int) + 1, t, ea, es.length, ec)], by omega, by omega, by omega, by go_num, by go_num, by rw [List.length_append]; simp; omega, HO6, HG6, HB6⟩
        case measure => simp [intOf]; omega
    · have hqj : ¬ (j : Int) < 3 := by omega
      go_wp2
      go_ret
      obtain ⟨fs, f1, f2, f3⟩ := good_ok hgd.out.1 hgd.out.2.1
      exact ⟨_, rfl, fs, ⟨qs, ho.out.rd, f1⟩, f2, f3, hb.out⟩

end Go.Proofs.YtdfablboenfblaaDoor.ST
