/-
  A list of updates with their effects; the call of the laws' own Updates. Conditions: the list of numbers reads.
-/
import Derived.Test.YtcalnapdpnnljaaDoorUKit2
namespace Go.Proofs.YtcalnapdpnnljaaDoor
open Go.RowKit
open UM (Ef)

/-- An update as it lies in a list: Client, Seq, Tag, the slice of its effects. -/
abbrev Up := Int × Int × Int × Option Addr × Nat × Nat
def encUp : Up → List Value
  | (c, q, t, a, l, k) => [.int .i64 c, .int .i64 q, .int .i64 t, .slice a l k]
theorem hlUp : 0 < 4 ∧ ∀ x, (encUp x).length = 4 := ⟨by decide, fun x => by obtain ⟨a, b, c, d, e, f⟩ := x; rfl⟩
theorem upE : IsElem Tryd.prog 45 30 4 48 encUp where
  ht := Tryd.underlying45
  info := by
    obtain ⟨i0, hi, hz0, hz1, hz2⟩ := info_parts (show (Tryd.prog.info? 30).map (fun i => (i.zero, i.size, i.bytes)) = some (some (uv 0 0 0 (.slice none 0 0)), 4, 48) by kernel_rfl)
    exact ⟨i0, _, hi, hz0, hz1, hz2, rfl⟩
  len := hlUp.2
  one := by intro x u hu; obtain ⟨a, b, c, d, e, f⟩ := x; simp [encUp] at hu; rcases hu with rfl | rfl | rfl | rfl <;> rfl
  pos := by decide
  fits := by decide
abbrev RdUp := RdG encUp 4
abbrev OwnUp := OwnG encUp 30 4
theorem atUp {w : World} {a : Option Addr} {n c : Nat} {xs : List Up} (h : RdUp w (.slice a n c) xs) (i : Nat) (x q t : Int) (ad : Option Addr) (l k : Nat) (hk : xs[i]? = some (x, q, t, ad, l, k)) :
    ∃ b o, (∀ w0, (Instr.indexAt 45 (.slice a n c) (.int .i64 (i : Int))).run Tryd.prog w0 = .ok (.pointer (some ⟨b, o, none⟩)) w0) ∧ b < w.heap.size ∧
      w.cell? ⟨b, o, none⟩ = some (.int .i64 x) ∧ w.cell? ⟨b, o + 1, none⟩ = some (.int .i64 q) ∧ w.cell? ⟨b, o + 2, none⟩ = some (.int .i64 t) ∧ w.cell? ⟨b, o + 3, none⟩ = some (.slice ad l k) := by
  obtain ⟨b, o, h1, h2, h3⟩ := h.at_ upE i _ hk
  exact ⟨b, o, h1, h2, h3 0 _ rfl, h3 1 _ rfl, h3 2 _ rfl, h3 3 _ rfl⟩
/-- A valid update, its effects the call's own. -/
def GoodU (base : Nat) (w : World) (x : Up) : Prop := ∃ es, OwnEf base w (.slice x.2.2.2.1 x.2.2.2.2.1 x.2.2.2.2.2) es ∧ UM.errU x.1 x.2.1 x.2.2.1 es = 0 ∧ ∀ e ∈ es, UM.in64 e
theorem GoodU.below {base : Nat} {w w' : World} {x : Up} (h : GoodU base w x) (hb : Below w.heap.size w w') : GoodU base w' x := by
  obtain ⟨es, h1, h2⟩ := h; exact ⟨es, h1.below hb, h2⟩
theorem GoodU.keep {base : Nat} {w w' : World} {x : Up} (h : GoodU base w x) (hk : KeepsX 30 w w') : GoodU base w' x := by
  obtain ⟨es, h1, h2⟩ := h; exact ⟨es, ownG_keep h1 hk (by decide), h2⟩

set_option maxRecDepth 100000 in
set_option maxHeartbeats 4000000 in
theorem kUpdates (v : Value) (l : List Int) (w : World) (h : RdI w v l) (hl : l.length ≤ 4611686018427387904) :
    Calls Tryd.prog 28 #[v] w fun e w' => ∃ u qs, e = .returned u ∧ OwnUp w.heap.size w' u qs ∧ (∀ q ∈ qs, GoodU w.heap.size w' q) ∧ qs.length ≤ 72 ∧ Below w.heap.size w w' := by
  obtain ⟨ad, cp, rfl, hcp, _⟩ := h.shape
  have HV := Lib.hid h
  have hl9 : l.length ≤ 9223372036854775807 := by omega
  clear h hl
  go_enter Tryd.func28, Tryd.ntmps28
  go_wp2
  go_loopw [3, 4] (fun u a wr => ∃ (j : Nat) (qs : List Up), j ≤ 3 ∧ a = .int .i64 j ∧ qs.length ≤ 24 * j ∧ Hid (OwnUp w.heap.size wr u qs) ∧ Hid (∀ q ∈ qs, GoodU w.heap.size wr q) ∧ Hid (Below w.heap.size w wr)) (fun _ a _ => 3 - (intOf a).toNat)
  case atStart => exact ⟨0, [], by decide, rfl, by decide, OwnG.nil hlUp _ _ _, (fun q hq => by cases hq), Below.refl _ _⟩
  case round =>
    obtain ⟨j, qs, hj, rfl, hql, ho, hgd, hb⟩ := hrel
    by_cases hj3 : j < 3
    · have hqj : (j : Int) < 3 := by omega
      go_wp2
      obtain ⟨wo, rfl⟩ : ∃ wo, wo = wr := ⟨wr, rfl⟩
      go_loopw [3, 5, 6] (fun u s a wr => ∃ (i sq : Nat) (qs : List Up), i ≤ 24 ∧ i ≤ l.length ∧ sq ≤ 8 ∧ s = .int .i64 sq ∧ a = .int .i64 i ∧ qs.length ≤ 24 * j + i ∧ Hid (OwnUp w.heap.size wr u qs) ∧ Hid (∀ q ∈ qs, GoodU w.heap.size wr q) ∧ Hid (Below w.heap.size w wr)) (fun _ _ a _ => 24 - (intOf a).toNat)
      case atStart => exact ⟨0, 0, qs, by decide, Nat.zero_le _, by decide, rfl, rfl, by omega, ho.out, hgd.out, hb.out⟩
      case round =>
        clear ho hgd hb hql
        obtain ⟨i, sq, qs, hi, hil, hsq, rfl, rfl, hql, ho, hgd, hb⟩ := hrel
        by_cases hi1 : i < l.length
        case neg =>
          have hq1 : ¬ (i : Int) < (l.length : Int) := by omega
          go_wp2
          go_roundw
          case rel => exact ⟨j + 1, qs, by omega, by go_num, by omega, ho, hgd, hb⟩
          case measure => simp [intOf]; omega
        by_cases hi2 : i < 24
        case neg =>
          have hq1 : (i : Int) < (l.length : Int) := by omega
          have hq2 : ¬ (i : Int) < 24 := by omega
          go_wp2
          go_roundw
          case rel => exact ⟨j + 1, qs, by omega, by go_num, by omega, ho, hgd, hb⟩
          case measure => simp [intOf]; omega
        have hq1 : (i : Int) < (l.length : Int) := by omega
        have hq2 : (i : Int) < 24 := by omega
        have hat := List.getElem?_eq_getElem hi1
        generalize l[i] = X at hat
        obtain ⟨b, o, hix, hbb, hc⟩ := atI (HV.out.below hb.out) i X hat
        have HD := Lib.hid (fun w' => kDigit X 3 0 w' (by decide) (by decide) (by decide))
        have HI := Lib.hid (fun w' => kIndex X 1099511627776 w' (by decide) (by decide))
        have hir := ix_range (n := X) (show (1 : Int) ≤ 1099511627776 by decide)
        generalize dg X 3 0 = d at HD
        generalize ix X 1099511627776 = J at HI hir
        clear hat hbb
        go_wp2_with fail
        refine (HD.out _).mono ?_
        rintro e w2 ⟨rfl, rfl⟩
        clear HD
        by_cases hd : d = j
        case neg =>
          have hd' : ((d : Int) == (j : Int)) = false := by simp; omega
          clear hc hix HI
          go_wp2
          go_roundw
          case rel => exact ⟨i + 1, sq, qs, by omega, by omega, hsq, rfl, by go_num, by omega, ho, hgd, hb⟩
          case measure => simp [intOf]; omega
        have hd' : ((d : Int) == (j : Int)) = true := by simp [hd]
        by_cases hs8 : sq < 8
        case neg =>
          have hs' : ¬ (sq : Int) < 8 := by omega
          clear hc hix HI
          go_wp2
          go_roundw
          case rel => exact ⟨i + 1, sq, qs, by omega, by omega, hsq, rfl, by go_num, by omega, ho, hgd, hb⟩
          case measure => simp [intOf]; omega
        have hs' : (sq : Int) < 8 := by omega
        have hY : 0 ≤ J.tdiv 3 ∧ J.tdiv 3 ≤ J := by
          rw [Int.tdiv_eq_ediv_of_nonneg hir.1]
          exact ⟨Int.ediv_nonneg hir.1 (by omega), Int.ediv_le_self _ hir.1⟩
        obtain ⟨Y, hYd⟩ : ∃ Y, J.tdiv 3 = Y := ⟨_, rfl⟩
        rw [hYd] at hY
        have hYw : IntKind.i64.wrap Y = Y := IntWalk.i64_in _ (by omega)
        have HU := Lib.hid (fun w' => kUpdate (101 + (j : Int)) ((sq : Int) + 1) Y w' (decide_eq_true (by omega)) (by omega))
        clear hY hir hd
        go_wp2_with fail
        refine (HI.out _).mono ?_
        rintro e w2 ⟨rfl, rfl⟩
        clear HI
        go_wp2_with fail
        refine (HU.out _).mono ?_
        rintro e w2 ⟨t, sv, es, rfl, hoe, herr, h64, hb2⟩
        obtain ⟨ea, ec, rfl, _, _⟩ := hoe.rd.shape
        have hsz := hb.out.size
        have HO2 := Lib.hid (ho.out.below hb2)
        have HG2 := Lib.hid (fun q hq => (hgd.out q hq).below hb2)
        have HE2 := Lib.hid (show GoodU w.heap.size w2 (101 + (j : Int), (sq : Int) + 1, t, ea, es.length, ec) from ⟨es, hoe.mono hsz, herr, h64⟩)
        have HB2 := Lib.hid (bnext hb.out hb2)
        have hsz2 := HB2.out.size
        have hlq : qs.length ≤ 1073741824 := by omega
        clear hoe herr h64 hb2 ho hgd hb HU hc hix hsz
        go_wp2_with (at_builtin; refine wp_appG1 upE (101 + (j : Int), (sq : Int) + 1, t, ea, es.length, ec) rfl _ _ rfl rfl HO2.out rfl hlq hsz2 ?_; intro v6 w6 ho6 hb6 hk6 _)
        have HO6 := Lib.hid ho6
        have HB6 := Lib.hid (HB2.out.trans hb6)
        have HG6 := Lib.hid (show ∀ x ∈ qs ++ [(101 + (j : Int), (sq : Int) + 1, t, ea, es.length, ec)], GoodU w.heap.size w6 x by
          intro x hx
          rcases List.mem_append.1 hx with h | h
          · exact (HG2.out x h).keep hk6
          · rw [List.mem_singleton] at h
            subst h
            exact HE2.out.keep hk6)
        clear ho6 hb6 hk6 HO2 HG2 HE2 HB2
        go_roundw
        case rel => exact ⟨i + 1, sq + 1, qs ++ [(101 + (j : Int), (sq : Int) + 1, t, ea, es.length, ec)], by omega, by omega, by omega, by go_num, by go_num, by rw [List.length_append]; simp; omega, HO6, HG6, HB6⟩
        case measure => simp [intOf]; omega
    · have hqj : ¬ (j : Int) < 3 := by omega
      go_wp2
      go_ret
      exact ⟨_, rfl, qs, ho.out, fun _ _ _ _ _ _ h => hgd.out _ h, by omega, hb.out⟩

end Go.Proofs.YtcalnapdpnnljaaDoor
