/-
  The walk of the law WireSequence: it returns true. No conditions beyond that the arguments read as data.
-/
import Derived.Test.YtipjifdjgipocaaSeqBase
namespace Go.Proofs.Ytipjifdjgipocaa
open Go.RowKit
open WM (Bytes enc dec zig zag)

set_option maxRecDepth 100000 in
set_option maxHeartbeats 8000000 in
theorem lSequence (ls : List Int) (ss : List ByteArray) (vs : List Bool) (a0 a1 a2 : Option Addr) (c0 c1 c2 : Nat) (w : World)
    (hm0 : ls.length ≤ 9223372036854775807) (hm1 : ss.length ≤ 9223372036854775807) (hm2 : vs.length ≤ 9223372036854775807)
    (h0 : ∀ k (hk : k < ls.length), ∃ p, (∀ w0, (Instr.indexAt 46 (.slice a0 ls.length c0) (.int .i64 (k : Int))).run Try.prog w0 = .ok (.pointer (some p)) w0) ∧ w.cell? p = some (.int .i64 ls[k]))
    (h1 : ∀ k (hk : k < ss.length), ∃ p, (∀ w0, (Instr.indexAt 47 (.slice a1 ss.length c1) (.int .i64 (k : Int))).run Try.prog w0 = .ok (.pointer (some p)) w0) ∧ w.cell? p = some (.string ss[k]))
    (h2 : ∀ k (hk : k < vs.length), ∃ p, (∀ w0, (Instr.indexAt 48 (.slice a2 vs.length c2) (.int .i64 (k : Int))).run Try.prog w0 = .ok (.pointer (some p)) w0) ∧ w.cell? p = some (.bool vs[k]))
    (hz : ∀ z ∈ ls, -9223372036854775808 ≤ z ∧ z ≤ 9223372036854775807) (hsz : ∀ s ∈ ss, s.size ≤ 9223372036854775807) :
    Calls Try.prog 12 #[.slice a0 ls.length c0, .slice a1 ss.length c1, .slice a2 vs.length c2] w fun e w' => e = .returned (.bool true) ∧ Below w.heap.size w w' := by
  have H0 := Lib.hid h0
  have H1 := Lib.hid h1
  have H2 := Lib.hid h2
  have HZ := Lib.hid hz
  have HS := Lib.hid hsz
  clear h0 h1 h2 hz hsz
  by_cases hb0 : 40 < ls.length
  · go_enter Try.func12, Try.ntmps12
    go_wp2_with fail
    refine (awake_any _).mono ?_
    rintro e w1 ⟨rfl, hb⟩
    go_wp2
    go_ret
    exact ⟨rfl, hb⟩
  by_cases hb1 : 40 < ss.length
  · go_enter Try.func12, Try.ntmps12
    go_wp2_with fail
    refine (awake_any _).mono ?_
    rintro e w1 ⟨rfl, hb⟩
    go_wp2
    go_ret
    exact ⟨rfl, hb⟩
  by_cases hb2 : 40 < vs.length
  · go_enter Try.func12, Try.ntmps12
    go_wp2_with fail
    refine (awake_any _).mono ?_
    rintro e w1 ⟨rfl, hb⟩
    go_wp2
    go_ret
    exact ⟨rfl, hb⟩
  have hlI := cat_len eI 10 ls (fun z hzl => WM.enc_len10 _ (WM.zig_lt z (HZ.out z hzl).1 (HZ.out z hzl).2))
  go_enter Try.func12, Try.ntmps12
  go_wp2_with fail
  go_loopw [7, 8] (fun b i wr => ∃ k : Nat, k ≤ ls.length ∧ i = .int .i64 k ∧ Own w.heap.size wr b (cat eI (ls.take k)) ∧ Below w.heap.size w wr) (fun _ i _ => ls.length - (intOf i).toNat)
  case atStart => exact ⟨0, by omega, rfl, ⟨World.ownsRow_nil _ _ _ _, fun _ h => by cases h⟩, Below.refl _ _⟩
  case round =>
    obtain ⟨k, hk, rfl, ho, hb⟩ := hrel
    by_cases hlt : k < ls.length
    · obtain ⟨p, hix, hc⟩ := H0.out k hlt
      have hc := below_cell hb hc
      have hzk := HZ.out ls[k] (List.getElem_mem hlt)
      have hsn := Lib.hid (cat_snoc eI ls k hlt)
      have hfit := cat_fit eI ls k hlt
      have hcall := wAppendInt _ _ ls[k] _ ho.rd (by omega) hzk.1 hzk.2
      have HC := Lib.hid hcall
      clear hcall hzk hfit
      generalize ls[k] = z at hc hsn HC
      go_wp2_with fail
      refine HC.out.mono ?_
      rintro e w1 ⟨v1, rfl, ho1, hb1⟩
      clear HC hc hix
      have ho2 := ho1.mono hb.size
      have hb2 := hb.trans (hb1.mono hb.size)
      clear ho ho1 hb hb1
      go_wp2_with fail
      go_roundw
      case rel => exact ⟨k + 1, by omega, by go_num, by rw [hsn.out]; exact ho2, hb2⟩
      case measure => simp [intOf]; omega
    · have hkn : k = ls.length := by omega
      rw [hkn, List.take_length] at ho
      clear hkn hk
      go_wp2_with fail
      clear hlt
      go_loopw [7, 9] (fun b i wr2 => ∃ k2 : Nat, k2 ≤ ss.length ∧ i = .int .i64 k2 ∧ Own w.heap.size wr2 b (cat eI ls ++ cat eS (ss.take k2)) ∧ Below w.heap.size w wr2 ∧ Hid (∀ s ∈ ss.take k2, s.size ≤ 300)) (fun _ i _ => ss.length - (intOf i).toNat)
      case atStart => exact ⟨0, by omega, rfl, by rw [List.take_zero, cat_nil, List.append_nil]; exact ho, hb, fun s hs => by simp at hs⟩
      case round =>
        clear ho hb
        obtain ⟨k2, hk, rfl, ho, hb, hsm⟩ := hrel
        by_cases hlt : k2 < ss.length
        · obtain ⟨p, hix, hc⟩ := H1.out k2 hlt
          have hc := below_cell hb hc
          have hzk := HS.out ss[k2] (List.getElem_mem hlt)
          have hsn := Lib.hid (cat_snoc eS ss k2 hlt)
          have htk := Lib.hid (take_snoc ss k2 hlt)
          have hfit := cat_len eS 310 (ss.take k2) (fun s hs => eS_len s (hsm.out s hs))
          have htl : (ss.take k2).length ≤ 40 := by rw [List.length_take]; omega
          by_cases hbig : 300 < ss[k2].size
          · generalize ss[k2] = s at hc hbig hzk hsn htk
            clear hsn htk hfit htl ho hsm
            go_wp2_with fail
            refine (awake_any _).mono ?_
            rintro e w1 ⟨rfl, hb1⟩
            go_wp2
            go_ret
            exact ⟨rfl, hb.trans (hb1.mono hb.size)⟩
          · have hcall := wAppendString _ _ ss[k2] _ ho.rd (by rw [List.length_append]; omega) (by omega)
            have HC := Lib.hid hcall
            clear hcall hfit htl
            generalize ss[k2] = s at hc hbig hzk hsn htk HC
            go_wp2_with fail
            refine HC.out.mono ?_
            rintro e w1 ⟨v1, rfl, ho1, hb1⟩
            clear HC hc hix
            have ho2 := ho1.mono hb.size
            have hb2 := hb.trans (hb1.mono hb.size)
            clear ho ho1 hb hb1
            have hsm2 : Hid (∀ x ∈ ss.take (k2 + 1), x.size ≤ 300) := by
              show ∀ x ∈ ss.take (k2 + 1), x.size ≤ 300
              rw [htk.out]
              intro x hx
              rcases List.mem_append.1 hx with hx | hx
              · exact hsm.out x hx
              · simp at hx; subst hx; omega
            clear hsm htk
            go_wp2_with fail
            go_roundw
            case rel => exact ⟨k2 + 1, by omega, by go_num, by rw [hsn.out, ← List.append_assoc]; unfold eS; rw [← List.append_assoc]; exact ho2, hb2, hsm2⟩
            case measure => simp [intOf]; omega
        · have hkn : k2 = ss.length := by omega
          rw [hkn, List.take_length] at ho hsm
          clear hkn hk
          go_wp2_with fail
          clear hlt
          go_loopw [7, 10] (fun b i wr3 => ∃ k3 : Nat, k3 ≤ vs.length ∧ i = .int .i64 k3 ∧ Own w.heap.size wr3 b (cat eI ls ++ (cat eS ss ++ cat eB (vs.take k3))) ∧ Below w.heap.size w wr3) (fun _ i _ => vs.length - (intOf i).toNat)
          case atStart => exact ⟨0, by omega, rfl, by rw [List.take_zero, cat_nil, List.append_nil]; exact ho, hb⟩
          case round =>
            clear ho hb
            obtain ⟨k3, hk, rfl, ho, hb⟩ := hrel
            have hfS := cat_len eS 310 ss (fun s hs => eS_len s (hsm.out s hs))
            by_cases hlt : k3 < vs.length
            · obtain ⟨p, hix, hc⟩ := H2.out k3 hlt
              have hc := below_cell hb hc
              have hsn := Lib.hid (cat_snoc eB vs k3 hlt)
              have hfit := cat_len eB 1 (vs.take k3) (fun s hs => Nat.le_refl _)
              have htl : (vs.take k3).length ≤ 40 := by rw [List.length_take]; omega
              have hcall := wAppendBool _ _ vs[k3] _ ho.rd (by rw [List.length_append, List.length_append]; omega)
              have HC := Lib.hid hcall
              clear hcall hfit htl hfS
              generalize vs[k3] = t at hc hsn HC
              go_wp2_with fail
              refine HC.out.mono ?_
              rintro e w1 ⟨v1, rfl, ho1, hb1⟩
              clear HC hc hix
              have ho2 := ho1.mono hb.size
              have hb2 := hb.trans (hb1.mono hb.size)
              clear ho ho1 hb hb1
              go_wp2_with fail
              go_roundw
              case rel => exact ⟨k3 + 1, by omega, by go_num, by rw [hsn.out, ← List.append_assoc (cat eS ss), ← List.append_assoc (cat eI ls)]; exact ho2, hb2⟩
              case measure => simp [intOf]; omega
            · have hkn : k3 = vs.length := by omega
              rw [hkn, List.take_length] at ho
              clear hkn hk
              have hfB := cat_len eB 1 vs (fun s hs => Nat.le_refl _)
              have HR := Lib.hid ho.rd
              obtain ⟨a7, c7, rfl, hcm7⟩ := ho.rd.shape
              clear ho
              obtain ⟨all, hall⟩ : ∃ all, all = cat eI ls ++ (cat eS ss ++ cat eB vs) := ⟨_, rfl⟩
              have hal : all.length ≤ 100000 := by rw [hall, List.length_append, List.length_append]; omega
              have HALL := Lib.hid hall
              rw [← hall] at HR ⊢
              clear hall hfB hfS hlI
              have hmx := hm0
              go_wp2_with fail
              clear hlt
              go_loop [11, 12] (fun at_ i => ∃ k4 q : Nat, k4 ≤ ls.length ∧ i = .int .i64 k4 ∧ at_ = .int .i64 q ∧ Hid (q = (cat eI (ls.take k4)).length)) (fun _ i => ls.length - (intOf i).toNat)
              case atStart => exact ⟨0, 0, by omega, rfl, rfl, rfl⟩
              case round =>
                obtain ⟨k4, q, hk, rfl, rfl, hq⟩ := hrel
                by_cases hlt : k4 < ls.length
                · obtain ⟨p, hix, hc⟩ := H0.out k4 hlt
                  have hc := below_cell hb hc
                  have hzk := HZ.out ls[k4] (List.getElem_mem hlt)
                  have hfit := cat_fit eI ls k4 hlt
                  have hsn := congrArg List.length (cat_snoc eI ls k4 hlt)
                  have hdr := cat_drop eI ls [] (cat eS ss ++ cat eB vs) k4 hlt
                  have hpos : 1 ≤ (eI ls[k4]).length := WM.enc_pos _
                  rw [List.nil_append, ← HALL.out, List.length_nil, Nat.zero_add, ← hq.out] at hdr
                  rw [List.length_append, ← hq.out] at hsn
                  rw [← hq.out] at hfit
                  have hle : (cat eI ls).length ≤ all.length := by rw [HALL.out, List.length_append]; omega
                  obtain ⟨v', hsl, hrd⟩ := HR.out.cutL q (by omega)
                  rw [hdr] at hrd
                  have HC := Lib.hid (int_at hrd hzk.1 hzk.2)
                  have HSN := Lib.hid hsn
                  clear hsn hdr hrd hzk
                  generalize (eI ls[k4]).length = L at HC HSN hfit hpos
                  generalize ls[k4] = z at hc HC
                  have hfit2 : (q : Int) + (L : Int) ≤ (all.length : Int) := by omega
                  have ht1 : ¬ (L : Int) < 1 := by omega
                  have ht2 : ¬ (all.length : Int) - (q : Int) < (L : Int) := by omega
                  go_wp2_with fail
                  refine HC.out.mono ?_
                  rintro e w1 ⟨rfl, rfl⟩
                  clear HC hsl
                  go_wp2_with fail
                  go_round
                  case rel => exact ⟨k4 + 1, q + L, by omega, by go_num, by go_num, HSN.out.symm⟩
                  case measure => simp [intOf]; omega
                · have hkn : k4 = ls.length := by omega
                  rw [hkn, List.take_length] at hq
                  clear hkn hk
                  go_wp2_with fail
                  clear hlt
                  go_loop [11, 16] (fun at_ i => ∃ k5 q : Nat, k5 ≤ ss.length ∧ i = .int .i64 k5 ∧ at_ = .int .i64 q ∧ Hid (q = (cat eI ls).length + (cat eS (ss.take k5)).length)) (fun _ i => ss.length - (intOf i).toNat)
                  case atStart => exact ⟨0, q, by omega, rfl, rfl, hq⟩
                  case round =>
                    clear hq
                    obtain ⟨k5, q, hk, rfl, rfl, hq⟩ := hrel
                    by_cases hlt : k5 < ss.length
                    · obtain ⟨p, hix, hc⟩ := H1.out k5 hlt
                      have hc := below_cell hb hc
                      have hzk := hsm.out ss[k5] (List.getElem_mem hlt)
                      have hfit := cat_fit eS ss k5 hlt
                      have hsn := congrArg List.length (cat_snoc eS ss k5 hlt)
                      have hdr := cat_drop eS ss (cat eI ls) (cat eB vs) k5 hlt
                      have hpos : 1 ≤ (eS ss[k5]).length := eS_pos _
                      rw [← HALL.out, ← hq.out] at hdr
                      rw [List.length_append] at hsn
                      have hq2 := hq.out
                      have hle : (cat eI ls).length + (cat eS ss).length ≤ all.length := by rw [HALL.out, List.length_append, List.length_append]; omega
                      obtain ⟨v', hsl, hrd⟩ := HR.out.cutL q (by omega)
                      rw [hdr] at hrd
                      have HC := Lib.hid (str_at hrd hzk)
                      have HSN := Lib.hid (show q + (eS ss[k5]).length = (cat eI ls).length + (cat eS (ss.take (k5 + 1))).length by omega)
                      have hfit2 : (q : Int) + ((eS ss[k5]).length : Int) ≤ (all.length : Int) := by omega
                      clear hsn hdr hrd hzk hq2 hfit hle
                      generalize (eS ss[k5]).length = L at HC HSN hfit2 hpos
                      generalize ss[k5] = z at hc HC
                      have ht1 : ¬ (L : Int) < 1 := by omega
                      have ht2 : ¬ (all.length : Int) - (q : Int) < (L : Int) := by omega
                      go_wp2_with fail
                      refine HC.out.mono ?_
                      rintro e w1 ⟨rfl, rfl⟩
                      clear HC hsl
                      go_wp2_with fail
                      go_round
                      case rel => exact ⟨k5 + 1, q + L, by omega, by go_num, by go_num, HSN.out⟩
                      case measure => simp [intOf]; omega
                    · have hkn : k5 = ss.length := by omega
                      rw [hkn, List.take_length] at hq
                      clear hkn hk
                      go_wp2_with fail
                      clear hlt
                      go_loop [11, 20] (fun at_ i => ∃ k6 q : Nat, k6 ≤ vs.length ∧ i = .int .i64 k6 ∧ at_ = .int .i64 q ∧ Hid (q = (cat eI ls).length + (cat eS ss).length + (cat eB (vs.take k6)).length)) (fun _ i => vs.length - (intOf i).toNat)
                      case atStart => exact ⟨0, q, by omega, rfl, rfl, hq⟩
                      case round =>
                        clear hq
                        obtain ⟨k6, q, hk, rfl, rfl, hq⟩ := hrel
                        have hle : (cat eI ls).length + (cat eS ss).length + (cat eB vs).length = all.length := by rw [HALL.out, List.length_append, List.length_append]; omega
                        by_cases hlt : k6 < vs.length
                        · obtain ⟨p, hix, hc⟩ := H2.out k6 hlt
                          have hc := below_cell hb hc
                          have hfit := cat_fit eB vs k6 hlt
                          have hsn := congrArg List.length (cat_snoc eB vs k6 hlt)
                          have hdr := cat_drop eB vs (cat eI ls ++ cat eS ss) [] k6 hlt
                          rw [List.append_nil, List.append_assoc, ← HALL.out, List.length_append, ← hq.out] at hdr
                          rw [List.length_append] at hsn
                          have hq2 := hq.out
                          have hL : (eB vs[k6]).length = 1 := rfl
                          obtain ⟨v', hsl, hrd⟩ := HR.out.cutL q (by omega)
                          rw [hdr] at hrd
                          have HC := Lib.hid (bool_at hrd)
                          have HSN := Lib.hid (show q + 1 = (cat eI ls).length + (cat eS ss).length + (cat eB (vs.take (k6 + 1))).length by omega)
                          have hfit2 : (q : Int) + 1 ≤ (all.length : Int) := by omega
                          clear hsn hdr hrd hq2 hfit hle hL
                          generalize vs[k6] = z at hc HC
                          have ht2 : ¬ (all.length : Int) - (q : Int) < 1 := by omega
                          have ht3 : (z != z) = false := by simp
                          go_wp2_with fail
                          refine HC.out.mono ?_
                          rintro e w1 ⟨rfl, rfl⟩
                          clear HC hsl
                          go_wp2_with fail
                          go_round
                          case rel => exact ⟨k6 + 1, q + 1, by omega, by go_num, by go_num, HSN.out⟩
                          case measure => simp [intOf]; omega
                        · have hkn : k6 = vs.length := by omega
                          rw [hkn, List.take_length] at hq
                          have hq2 := hq.out
                          have heq := beq_iff_eq.2 (show (q : Int) = (all.length : Int) by omega)
                          clear hkn hk hq hq2 hle
                          go_wp2_with fail
                          refine (awake_any _).mono ?_
                          rintro e w1 ⟨rfl, hb1⟩
                          go_wp2
                          go_ret
                          exact ⟨rfl, hb.trans (hb1.mono hb.size)⟩

end Go.Proofs.Ytipjifdjgipocaa
