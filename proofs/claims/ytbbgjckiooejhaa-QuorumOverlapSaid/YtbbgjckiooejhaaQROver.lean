/-
  The call of the reference's Overlap. Conditions: the members read and the view is valid.
-/
import Derived.Test.YtbbgjckiooejhaaQRMin
namespace Go.Proofs.Ytbbgjckiooejhaa
open Go.RowKit
open QM (Mem)

theorem rInQ {v : Value} {xs : List Int} (x : Int) {w : World} (h : RdI w v xs) (n : Nat) :
    Calls Try.prog 23 #[v, .int .i64 x] (w.drewN n) fun e w' => e = .returned (.bool (decide (x ∈ xs))) ∧ ∃ m, w' = w.drewN m := by
  refine (rIn v xs x _ (h.drewN n)).mono ?_
  rintro e w1 ⟨rfl, rfl⟩
  exact ⟨rfl, n, rfl⟩

/-- Least among the pairs from place i on, by places. -/
def LP (ls : List (List Int)) (j o : Nat) : Prop := ∀ i k a b, i < j → i ≤ k → ls[i]? = some a → ls[k]? = some b → o ≤ QM.com a b
theorem LP.least {k c f : Int} {ms : List Mem} {ls : List (List Int)} (hl : QM.MinL (QM.isQ k c f ms) ms ls) {o : Nat} (h1 : ∃ a ∈ ls, ∃ b ∈ ls, o = QM.com a b) (h2 : LP ls ls.length o) : QM.Least ls (o : Int) := by
  obtain ⟨a, ha, b, hb, h3⟩ := h1
  refine .inr ⟨⟨a, ha, b, hb, by rw [h3]⟩, fun x hx y hy => ?_⟩
  obtain ⟨i, hi, rfl⟩ := List.getElem_of_mem hx
  obtain ⟨j, hj, rfl⟩ := List.getElem_of_mem hy
  rcases Nat.le_total i j with h | h
  · have := h2 i j _ _ hi h (List.getElem?_eq_getElem hi) (List.getElem?_eq_getElem hj)
    omega
  · have := h2 j i _ _ hj h (List.getElem?_eq_getElem hj) (List.getElem?_eq_getElem hi)
    rw [QM.com_comm ((hl.2 _).1 (List.getElem_mem hi)).1 ((hl.2 _).1 (List.getElem_mem hj)).1]
    omega
theorem com_succ {a b : List Int} {j : Nat} (h : j < a.length) : ((a.take (j + 1)).countP fun x => decide (x ∈ b)) = ((a.take j).countP fun x => decide (x ∈ b)) + if a[j] ∈ b then 1 else 0 := by
  rw [List.take_succ_eq_append_getElem h, List.countP_append]
  simp [List.countP_cons]

set_option maxRecDepth 100000 in
set_option maxHeartbeats 4000000 in
theorem rOverlap (sv : Value) (k c f : Int) (ms : List Mem) (w : World) (hr : RdM w sv ms) (he : QM.errV k c f ms = 0) :
    Calls Try.prog 26 #[vw sv k c f] w fun e w' => ∃ o ls, e = .returned (.int .i64 o) ∧ QM.MinL (QM.isQ k c f ms) ms ls ∧ QM.Least ls o ∧ Below w.heap.size w w' := by
  have hv := VBox.fresh w sv k c f
  have hB := below_fresh w (.cells #[sv, .int .i64 k, .int .i64 c, .int .i64 f] 26)
  have h0 := hr.below hB
  have HC := Lib.hid (fun w1 (h : RdM w1 sv ms) => rMinimal sv k c f ms w1 h he)
  have H := Lib.hid h0
  have HV := Lib.hid hv
  have HB := Lib.hid hB
  clear h0 hv hB hr he
  generalize hw0 : w.alloc (.cells #[sv, .int .i64 k, .int .i64 c, .int .i64 f] 26) = w0 at H HV HB
  obtain ⟨v0, v1, v2, v3, v4⟩ := HV.out
  have HW0 := Lib.hid hw0
  clear hw0
  go_enter Try.func26, Try.ntmps26
  go_wp2_with fail
  rw [HW0.out]
  refine (HC.out _ H.out).mono ?_
  rintro e w2 ⟨v, ls, rfl, ho, hm, hb2⟩
  obtain ⟨av, cv, rfl, hcv, hlv⟩ := ho.shape
  have HS := Lib.hid ho
  have HLS := Lib.hid hm
  have HFIN := Lib.hid (fun (o : Nat) h1 h2 => LP.least (o := o) hm h1 h2)
  have HB2 := Lib.hid (bnext HB.out hb2)
  clear v0 v1 v2 v3 v4 HC HW0 H HV HB hb2 hm ho
  by_cases hz : ls.length = 0
  · have hq : ((ls.length : Int) == 0) = true := beq_t (by omega)
    have HNN := Lib.hid (List.eq_nil_of_length_eq_zero hz)
    clear hz HFIN
    go_wp2
    go_ret
    exact ⟨0, ls, rfl, HLS.out, .inl ⟨HNN.out, rfl⟩, HB2.out⟩
  · have hq : ((ls.length : Int) == 0) = false := beq_f (by omega)
    have hpos : 0 < ls.length := by omega
    obtain ⟨b0, o0, u0, hi0, hb0, c0, hr0⟩ := HS.out.at_ 0 ls[0] (List.getElem?_eq_getElem hpos)
    have hi0' : ∀ w0, (Instr.indexAt 36 (.slice av ls.length cv) (.int .i64 0)).run Try.prog w0 = .ok (.pointer (some ⟨b0, o0, none⟩)) w0 := hi0
    have HST := Lib.hid (show ∃ a ∈ ls, ∃ b ∈ ls, ls[0].length = QM.com a b from ⟨ls[0], List.getElem_mem hpos, ls[0], List.getElem_mem hpos, (QM.com_self _).symm⟩)
    clear hi0 hz
    generalize ls[0] = l0 at hr0 HST
    obtain ⟨a0, k0, rfl, hk0, hl0⟩ := hr0.shape
    clear hr0
    generalize l0.length = p0 at *
    go_wp2
    go_loopw [4, 5] (fun u i wr => ∃ (j o : Nat), j ≤ ls.length ∧ i = .int .i64 j ∧ u = .int .i64 o ∧ Hid (∃ a ∈ ls, ∃ b ∈ ls, o = QM.com a b) ∧ Hid (LP ls j o) ∧ Hid (Below w2.heap.size w2 wr)) (fun _ i _ => ls.length - (intOf i).toNat)
    case atStart => exact ⟨0, p0, Nat.zero_le _, rfl, rfl, HST.out, (fun i k a b h => absurd h (Nat.not_lt_zero i)), Below.refl _ _⟩
    case round =>
      obtain ⟨j, o, hj, rfl, rfl, hex, hall, hbr⟩ := hrel
      clear HST hi0' hb0 c0 hk0 hl0
      by_cases hlt : j < ls.length
      · have hq1 : (j : Int) < (ls.length : Int) := by omega
        obtain ⟨a, hga⟩ : ∃ a, ls[j]? = some a := ⟨_, List.getElem?_eq_getElem hlt⟩
        have HGA := Lib.hid hga
        clear hga
        go_wp2
        go_loopw [4, 6] (fun u i wr => ∃ (j2 o : Nat), j ≤ j2 ∧ j2 ≤ ls.length ∧ i = .int .i64 j2 ∧ u = .int .i64 o ∧ Hid (∃ a ∈ ls, ∃ b ∈ ls, o = QM.com a b) ∧ Hid (LP ls j o) ∧ Hid (∀ k b, j ≤ k → k < j2 → ls[k]? = some b → o ≤ QM.com a b) ∧ Hid (Below w2.heap.size w2 wr)) (fun _ i _ => ls.length - (intOf i).toNat)
        case atStart => exact ⟨j, o, Nat.le_refl _, hj, rfl, rfl, hex.out, hall.out, (fun k b h1 h2 => absurd h1 (by omega)), hbr.out⟩
        case round =>
          obtain ⟨j2, o2, hjj, hj2, rfl, rfl, hex2, hall2, hin2, hbr2⟩ := hrel
          clear hex hall hbr
          by_cases hlt2 : j2 < ls.length
          · have hq2 : (j2 : Int) < (ls.length : Int) := by omega
            obtain ⟨b, hgb⟩ : ∃ b, ls[j2]? = some b := ⟨_, List.getElem?_eq_getElem hlt2⟩
            have HGB := Lib.hid hgb
            clear hgb
            go_wp2
            go_loopw [7, 8] (fun u i wr => ∃ (j3 n : Nat), j3 ≤ a.length ∧ n ≤ j3 ∧ i = .int .i64 j3 ∧ u = .int .i64 n ∧ Hid (n = (a.take j3).countP fun x => decide (x ∈ b)) ∧ Hid (Below w2.heap.size w2 wr)) (fun _ i _ => a.length - (intOf i).toNat)
            case atStart => exact ⟨0, 0, Nat.zero_le _, Nat.le_refl _, rfl, rfl, rfl, hbr2.out⟩
            case round =>
              obtain ⟨j3, n, hj3, hn3, rfl, rfl, hcn, hbr3⟩ := hrel
              clear hbr2
              obtain ⟨b1, o1, u1, hi1, hb1, c1, hr1⟩ := (HS.out.below hbr3.out).at_ j a HGA.out
              obtain ⟨b2, o4, u2, hi2, hb2, c2, hr2⟩ := (HS.out.below hbr3.out).at_ j2 b HGB.out
              obtain ⟨a1, k1, rfl, hk1, hl1⟩ := hr1.shape
              obtain ⟨a2, k2, rfl, hk2, hl2⟩ := hr2.shape
              by_cases hlt3 : j3 < a.length
              · have hq3 : (j3 : Int) < (a.length : Int) := by omega
                obtain ⟨b3, o3, hi3, hb3, c3⟩ := atI hr1 j3 a[j3] (List.getElem?_eq_getElem hlt3)
                have hcs := com_succ (b := b) hlt3
                rw [← hcn.out] at hcs
                generalize a[j3] = x at c3 hcs
                have hcall := fun n => rInQ x hr2 n
                have HBK := Lib.hid hbr3.out
                clear hr1 hr2 hbr3 hcn
                by_cases hx : x ∈ b
                · rw [if_pos hx] at hcs
                  rw [decide_eq_true hx] at hcall
                  have HCN := Lib.hid hcs.symm
                  have HCL := Lib.hid hcall
                  clear hx hcs hcall
                  go_wp2
                  go_quiet ((go_at_call 23; exact HCL.out _))
                  go_wp2
                  go_round
                  case rel => exact ⟨j3 + 1, n + 1, by omega, by omega, by go_num, by go_num, HCN, HBK.out.trans (below_drewN _ _ _)⟩
                  case measure => simp [intOf]; omega
                · rw [if_neg hx] at hcs
                  rw [decide_eq_false hx] at hcall
                  have HCN := Lib.hid hcs.symm
                  have HCL := Lib.hid hcall
                  clear hx hcs hcall
                  go_wp2
                  go_quiet ((go_at_call 23; exact HCL.out _))
                  go_wp2
                  go_round
                  case rel => exact ⟨j3 + 1, n, by omega, by omega, by go_num, rfl, HCN, HBK.out.trans (below_drewN _ _ _)⟩
                  case measure => simp [intOf]; omega
              · have hq3 : ¬ (j3 : Int) < (a.length : Int) := by omega
                have hnc : n = QM.com a b := by rw [hcn.out, List.take_of_length_le (by omega)]; rfl
                have H1 := Lib.hid (show ∃ a ∈ ls, ∃ b ∈ ls, min o2 n = QM.com a b by
                  rcases Nat.le_total o2 n with h | h
                  · rw [Nat.min_eq_left h]; exact hex2.out
                  · rw [Nat.min_eq_right h]; exact ⟨a, List.mem_of_getElem? HGA.out, b, List.mem_of_getElem? HGB.out, hnc⟩)
                have H2 := Lib.hid (show LP ls j (min o2 n) from fun i k a b h1 h2 h3 h4 => Nat.le_trans (Nat.min_le_left _ _) (hall2.out i k a b h1 h2 h3 h4))
                have H3 := Lib.hid (show ∀ k b, j ≤ k → k < j2 + 1 → ls[k]? = some b → min o2 n ≤ QM.com a b from fun k b' h1 h2 h3 => by
                  by_cases e : k = j2
                  · subst e
                    have e2 : b = b' := Option.some.inj (HGB.out.symm.trans h3)
                    subst e2
                    rw [← hnc]; exact Nat.min_le_right _ _
                  · exact Nat.le_trans (Nat.min_le_left _ _) (hin2.out k b' h1 (by omega) h3))
                have HBK := Lib.hid hbr3.out
                clear hr1 hr2 hbr3 hcn hnc hex2 hall2 hin2
                go_wp2
                go_round
                case rel => exact ⟨j2 + 1, min o2 n, by omega, by omega, by go_num, vint (by omega), H1, H2, H3, HBK⟩
                case measure => simp [intOf]; omega
          · have hq2 : ¬ (j2 : Int) < (ls.length : Int) := by omega
            have H2 := Lib.hid (show LP ls (j + 1) o2 from fun i k x y h1 h2 h3 h4 => by
              by_cases e : i = j
              · subst e
                have e2 : a = x := Option.some.inj (HGA.out.symm.trans h3)
                subst e2
                exact hin2.out k y h2 (by have := (List.getElem?_eq_some_iff.1 h4).1; omega) h4
              · exact hall2.out i k x y (by omega) h2 h3 h4)
            clear hall2 hin2
            go_wp2
            go_round
            case rel => exact ⟨j + 1, o2, by omega, by go_num, rfl, hex2, H2, hbr2⟩
            case measure => simp [intOf]; omega
      · have hq1 : ¬ (j : Int) < (ls.length : Int) := by omega
        obtain rfl : j = ls.length := by omega
        have HF := Lib.hid (HFIN.out o hex.out hall.out)
        clear hex hall HFIN
        go_wp2
        go_ret
        exact ⟨(o : Int), rfl, ls, HLS.out, HF.out, bnext HB2.out hbr.out⟩

end Go.Proofs.Ytbbgjckiooejhaa
