/-
  The call of update.Decode: it returns what the plain mathematics says of the bytes. Conditions: the tables of unicode/utf8 are laid; the slice reads as bytes. (Written by mk_udec.py.)
-/
import Derived.Deep.RegionHeld3
import Derived.Test.YtdfablboenfblaaDoorQURdr
import Derived.Test.YtdfablboenfblaaDoorQUV
namespace Go.Proofs.YtdfablboenfblaaDoor
open Go.RowKit
open JM (St)
open UM (Ef)
open WM (enc dec zig zag Bytes)

namespace UM
theorem many4 {xs : List Int} {s s1 s2 s3 s4 : St} {x1 x2 x3 x4 : Int} (h1 : JM.step xs s = (x1, s1)) (h2 : JM.step xs s1 = (x2, s2)) (h3 : JM.step xs s2 = (x3, s3)) (h4 : JM.step xs s3 = (x4, s4)) : JM.many xs s 4 = ([x1, x2, x3, x4], s4) := by
  simp [JM.many, h1, h2, h3, h4]
theorem jstep_zero {xs : List Int} {s s' : St} {x : Int} (h : JM.step xs s = (x, s')) (hx : 0 < x) : s'.2 = 0 := by
  unfold JM.step at h
  split at h
  · cases h; omega
  split at h
  · cases h; omega
  · cases h; rfl
theorem finU_congr {c q t : Int} {a b : List Ef × Nat × Int} (h : a.2.2 = b.2.2 ∧ (b.2.2 = 0 → a.1 = b.1 ∧ a.2.1 = b.2.1)) : finU c q t a = finU c q t b := by
  unfold finU
  by_cases hb : b.2.2 = 0
  · obtain ⟨h1, h2⟩ := h.2 hb
    rw [h.1, h1, h2]
  · rw [h.1, if_pos hb, if_pos hb]
theorem decU_run {xs : List Int} (hb : Bytes xs) {s1 s2 s3 s4 : St} {x1 x2 x3 x4 : Int} (h1 : JM.step xs (0, 0) = (x1, s1)) (h2 : JM.step xs s1 = (x2, s2)) (h3 : JM.step xs s2 = (x3, s3)) (h4 : JM.step xs s3 = (x4, s4)) :
    decU xs = finU x1 x2 x3 (efs xs (if 4 < x4 then (s4.1, 3) else s4) (if 4 < x4 then 0 else x4).toNat) := by
  have hm := many4 h1 h2 h3 h4
  unfold decU
  rw [hm]
  show (if s4.2 ≠ 0 then badU s4.2 else if 4 < x4 then badU 3 else finU x1 x2 x3 (chE xs s4.1 x4.toNat)) = _
  by_cases h6 : 4 < x4
  · have hz := jstep_zero h4 (by omega)
    rw [if_neg (by rw [hz]; simp), if_pos h6]
    simp only [if_pos h6]
    rfl
  · simp only [if_neg h6]
    by_cases hs : s4.2 = 0
    · rw [if_neg (by rw [hs]; simp)]
      have : s4 = (s4.1, 0) := Prod.ext rfl hs
      rw [this]
      exact (finU_congr (efs_eq hb s4.1 x4.toNat)).symm
    · rw [if_pos hs]
      unfold finU
      rw [efs_stop hs, if_pos hs]
theorem str_fit (xs : List Int) (s : St) (hl : xs.length ≤ maxLen) : (stepS xs s).1.size ≤ maxLen := by
  unfold stepS
  split
  · exact Nat.zero_le _
  · show (strOfNums (decS (xs.drop s.1)).1).size ≤ maxLen
    have h1 : (strOfNums (decS (xs.drop s.1)).1).size = (decS (xs.drop s.1)).1.length := by simp [strOfNums, ByteArray.size]
    rw [h1]
    unfold decS
    (repeat' split)
    · exact Nat.zero_le _
    · simp only [List.length_take, List.length_drop]; omega
    · exact Nat.zero_le _
end UM
theorem efs_fit (xs : List Int) (q : St) (hl : xs.length ≤ maxLen) (k : Nat) : ∀ e ∈ (UM.efs xs q k).1, NmFit e := by
  induction k with
  | zero => intro e he; cases he
  | succ k ih =>
    intro e he
    have he' : e ∈ (UM.efs xs q k).1 ++ [(UM.ef xs (UM.efs xs q k).2).1] := he
    rcases List.mem_append.1 he' with h | h
    · exact ih e h
    · rw [List.mem_singleton] at h
      subst h
      exact ⟨UM.str_fit _ _ hl, UM.str_fit _ _ hl⟩
theorem Rd.lenM {w : World} {v : Value} {xs : List Int} (h : Rd w v xs) : xs.length ≤ maxLen := by
  obtain ⟨_, _, _, _, hn1, hn2, hcm, _⟩ := h
  omega

theorem udec_ret {R : Ending → World → Prop} {a : Act} {w : World} {g : Nat} {c q t : Int} {s : Value} {u er : Int} (hp : a.tmps.getD 2 undef = .pointer (some ⟨g, 0, none⟩)) (h3 : a.tmps.getD 3 undef = .int .i64 u) (h4 : a.tmps.getD 4 undef = .int .i64 er) (hg : OU w g c q t s)
    (hd : a.defers = []) (hR : R (.returned (.tuple #[uv c q t s, .int .i64 u, .int .i64 er])) w) : bodyPost Tryd.prog Tryd.f76 R .ret a w := by
  have := results_cell_tmp_tmp (P := Tryd.prog) (fn := Tryd.f76) rfl a.tmps w g 43 _ _ _ hp hg Tryd.underlying43 rfl (by kernel_rfl)
  rw [h3, h4] at this
  exact bodyPost_ret this hd hR

set_option maxRecDepth 100000 in
set_option maxHeartbeats 4000000 in
theorem uDecodeO (v : Value) (xs : List Int) (w : World) (hT : Tb w) (h : Rd w v xs) :
    Calls Tryd.prog 76 #[v] w fun e w' => ∃ sv, e = .returned (.tuple #[uv (UM.decU xs).2.2.1.1 (UM.decU xs).2.2.1.2.1 (UM.decU xs).2.2.1.2.2 sv, .int .i64 ((UM.decU xs).2.1 : Int), .int .i64 (UM.decU xs).1]) ∧ OwnEf w.heap.size w' sv (UM.decU xs).2.2.2 ∧ Below w.heap.size w w' := by
  have hby := h.bytes
  obtain ⟨⟨x1, s1⟩, h1⟩ : ∃ p, JM.step xs (0, 0) = p := ⟨_, rfl⟩
  obtain ⟨⟨x2, s2⟩, h2⟩ : ∃ p, JM.step xs s1 = p := ⟨_, rfl⟩
  obtain ⟨⟨x3, s3⟩, h3⟩ : ∃ p, JM.step xs s2 = p := ⟨_, rfl⟩
  obtain ⟨⟨x4, s4⟩, h4⟩ : ∃ p, JM.step xs s3 = p := ⟨_, rfl⟩
  have u1 : s1.1 ≤ xs.length := by have := (JM.step_small xs (0, 0) hby (Nat.zero_le _)).2; rw [h1] at this; exact this
  have u2 : s2.1 ≤ xs.length := by have := (JM.step_small xs s1 hby u1).2; rw [h2] at this; exact this
  have u3 : s3.1 ≤ xs.length := by have := (JM.step_small xs s2 hby u2).2; rw [h3] at this; exact this
  have u4 : s4.1 ≤ xs.length := by have := (JM.step_small xs s3 hby u3).2; rw [h4] at this; exact this
  have hx4 : JM.small x4 := by have := (JM.step_small xs s3 hby u3).1; rw [h4] at this; exact this
  rw [UM.decU_run hby h1 h2 h3 h4]
  obtain ⟨q, hq⟩ : ∃ q : St, q = if 4 < x4 then (s4.1, 3) else s4 := ⟨_, rfl⟩
  obtain ⟨C, hC⟩ : ∃ C : Nat, C = (if 4 < x4 then 0 else x4).toNat := ⟨_, rfl⟩
  have hCi : (if 4 < x4 then 0 else x4) = (C : Int) := by unfold JM.small at hx4; rw [hC]; split <;> omega
  have hC4 : C ≤ 4 := by rw [hC]; split <;> omega
  have huq : q.1 ≤ xs.length := by rw [hq]; split <;> exact u4
  rw [← hq, ← hC]
  obtain ⟨R, hR⟩ : ∃ R, R = UM.finU x1 x2 x3 (UM.efs xs q C) := ⟨_, rfl⟩
  rw [← hR]
  have HR := Lib.hid hR
  clear hR
  obtain ⟨ZP, hZP⟩ : ∃ Z, Z = Obj.cells #[.int .i64 0, .int .i64 0, .int .i64 0, .slice none 0 0] 43 := ⟨_, rfl⟩
  obtain ⟨ZR, hZR⟩ : ∃ Z, Z = Obj.cells #[v, .int .i64 0, .int .i64 0] 121 := ⟨_, rfl⟩
  have b0 := below_fresh w ZP
  have hP0 : OU (w.alloc ZP) w.heap.size 0 0 0 (.slice none 0 0) := by rw [hZP]; exact OU.fresh w 0 0 0 _
  have hs0 := World.size_alloc w ZP
  have b1 := below_fresh (w.alloc ZP) ZR
  have hR1 : RdrB ((w.alloc ZP).alloc ZR) (w.heap.size + 1) v (0, 0) := by rw [hZR, ← hs0]; exact heap_alloc_new (w.alloc ZP) _
  have hP1 := hP0.below b1
  have hB1 := bnext b0 b1
  generalize hw1 : (w.alloc ZP).alloc ZR = w1 at hB1 hR1 hP1
  have HW1 := Lib.hid hw1
  have HZP := Lib.hid hZP
  have HZR := Lib.hid hZR
  have HB1 := Lib.hid hB1
  have HR1 := Lib.hid hR1
  have HP1 := Lib.hid hP1
  have HV := Lib.hid h
  have N1 : Hid (∀ w', RdrB w' (w.heap.size + 1) v (0, 0) → Below w.heap.size w w' → Calls Tryd.prog 102 #[.pointer (some ⟨w.heap.size + 1, 0, none⟩)] w' fun e w'' => e = .returned (.int .i64 x1) ∧ RdrB w'' (w.heap.size + 1) v s1 ∧ Only (w.heap.size + 1) w' w'') := by
    intro w' hr hb
    have := rdNumber _ v xs (0, 0) w' hr (h.below hb) (Nat.zero_le _)
    rw [h1] at this; exact this
  have N2 : Hid (∀ w', RdrB w' (w.heap.size + 1) v s1 → Below w.heap.size w w' → Calls Tryd.prog 102 #[.pointer (some ⟨w.heap.size + 1, 0, none⟩)] w' fun e w'' => e = .returned (.int .i64 x2) ∧ RdrB w'' (w.heap.size + 1) v s2 ∧ Only (w.heap.size + 1) w' w'') := by
    intro w' hr hb
    have := rdNumber _ v xs s1 w' hr (h.below hb) u1
    rw [h2] at this; exact this
  have N3 : Hid (∀ w', RdrB w' (w.heap.size + 1) v s2 → Below w.heap.size w w' → Calls Tryd.prog 102 #[.pointer (some ⟨w.heap.size + 1, 0, none⟩)] w' fun e w'' => e = .returned (.int .i64 x3) ∧ RdrB w'' (w.heap.size + 1) v s3 ∧ Only (w.heap.size + 1) w' w'') := by
    intro w' hr hb
    have := rdNumber _ v xs s2 w' hr (h.below hb) u2
    rw [h3] at this; exact this
  have N4 : Hid (∀ w', RdrB w' (w.heap.size + 1) v s3 → Below w.heap.size w w' → Calls Tryd.prog 103 #[.pointer (some ⟨w.heap.size + 1, 0, none⟩), .int .i64 4] w' fun e w'' => e = .returned (.int .i64 (C : Int)) ∧ RdrB w'' (w.heap.size + 1) v q ∧ Only (w.heap.size + 1) w' w'') := by
    intro w' hr hb
    have := rdCount4 _ v xs s3 w' hr (h.below hb) u3
    rw [h4] at this
    simp only at this
    rw [hCi, ← hq] at this
    exact this
  have N5 : Hid (∀ (k : Nat) w', RdrB w' (w.heap.size + 1) v (UM.efs xs q k).2 → Below w.heap.size w w' → Calls Tryd.prog 104 #[.pointer (some ⟨w.heap.size + 1, 0, none⟩)] w' fun e w'' => e = .returned (efv (UM.ef xs (UM.efs xs q k).2).1) ∧ RdrB w'' (w.heap.size + 1) v (UM.efs xs q (k + 1)).2 ∧ Only (w.heap.size + 1) w' w'') := by
    intro k w' hr hb
    exact rdEff w _ v xs _ w' hr h hb (Nat.le_succ _) (UM.efs_used hby huq k)
  have HFT := Lib.hid (fun k => efs_fit xs q (Rd.lenM h) k)
  have HTB := Lib.hid hT
  have hlg : w.heap.size + 1 < w1.heap.size := (Array.getElem?_eq_some_iff.1 hR1).1
  have HLG := Lib.hid hlg
  clear hT h hby h1 h2 h3 h4 u1 u2 u3 u4 hx4 hq hC hCi huq hZP hZR b0 hP0 hs0 b1 hR1 hP1 hB1 hw1 hlg
  obtain ⟨av, nv, cv', rfl⟩ : ∃ a n c, v = .slice a n c := by obtain ⟨a, c, hv, _⟩ := HV.out.shape; exact ⟨_, _, _, hv⟩
  go_enter Tryd.func76, Tryd.ntmps76
  go_wp2_with fail
  rw [← HZP.out, ← HZR.out, HW1.out]
  refine (N1.out _ HR1.out HB1.out).mono ?_
  rintro e w2 ⟨rfl, hr, ho⟩
  have HB2 := Lib.hid (seen HB1.out (Nat.le_succ _) ho)
  have HP2 := Lib.hid (HP1.out.only ho (by omega))
  have HL2 := Lib.hid (Nat.lt_of_lt_of_le HLG.out ho.size)
  have HR2 := Lib.hid hr
  clear hr ho N1 HR1 HP1 HB1 HLG HW1 HZR
  go_wp2_with fail
  refine (N2.out _ HR2.out HB2.out).mono ?_
  rintro e w3 ⟨rfl, hr, ho⟩
  have HB3 := Lib.hid (seen HB2.out (Nat.le_succ _) ho)
  have HP3 := Lib.hid (HP2.out.only ho (by omega))
  have HL3 := Lib.hid (Nat.lt_of_lt_of_le HL2.out ho.size)
  have HR3 := Lib.hid hr
  clear hr ho N2 HR2 HP2 HB2 HL2
  go_wp2_with fail
  refine (N3.out _ HR3.out HB3.out).mono ?_
  rintro e w9 ⟨rfl, hr, ho⟩
  have HB9 := Lib.hid (seen HB3.out (Nat.le_succ _) ho)
  have HP9 := Lib.hid (HP3.out.only ho (by omega))
  have HL9 := Lib.hid (Nat.lt_of_lt_of_le HL3.out ho.size)
  have HR9 := Lib.hid hr
  clear hr ho N3 HR3 HP3 HB3 HL3
  go_wp2_with fail
  have b4 := below_fresh w9 (.cells #[.int .i64 x1, .int .i64 x2, .int .i64 x3, .slice none 0 0] 43)
  have hX4 := OU.fresh w9 x1 x2 x3 (.slice none 0 0)
  have hP4 := HP9.out.below b4
  have hR4 : RdrB (w9.alloc (.cells #[.int .i64 x1, .int .i64 x2, .int .i64 x3, .slice none 0 0] 43)) (w.heap.size + 1) _ s3 := below_block HR9.out b4
  have hB4 := bnext HB9.out b4
  generalize w9.alloc (.cells #[.int .i64 x1, .int .i64 x2, .int .i64 x3, .slice none 0 0] 43) = w4 at b4 hX4 hP4 hR4 hB4 ⊢
  obtain ⟨pb, hpb⟩ : ∃ pb, pb = w9.heap.size := ⟨_, rfl⟩
  rw [← hpb] at hX4 ⊢
  have HPB := Lib.hid (show w.heap.size + 1 < pb by rw [hpb]; exact HL9.out)
  have hne : pb ≠ w.heap.size + 1 := Nat.ne_of_gt HPB.out
  refine (N4.out _ hR4 hB4).mono ?_
  rintro e w5 ⟨rfl, hr, ho⟩
  have HX5 := Lib.hid (hX4.only ho hne)
  have HP5 := Lib.hid (hP4.only ho (by omega))
  have HR5 := Lib.hid hr
  have HB5 := Lib.hid (seen hB4 (Nat.le_succ _) ho)
  clear hr ho N4 HR9 HP9 HB9 HL9 b4 hX4 hP4 hR4 hB4 hne hpb
  go_wp2
  go_loopw [15] (fun i wr => ∃ (k : Nat) (sv : Value), k ≤ C ∧ i = .int .i64 k ∧ Hid (RdrB wr (w.heap.size + 1) (.slice av nv cv') (UM.efs xs q k).2) ∧ Hid (OU wr pb x1 x2 x3 sv) ∧ Hid (OU wr w.heap.size 0 0 0 (.slice none 0 0)) ∧ Hid (OwnEf w.heap.size wr sv (UM.efs xs q k).1) ∧ Hid (Below w.heap.size w wr)) (fun i _ => C - (intOf i).toNat)
  case atStart => exact ⟨0, _, Nat.zero_le _, rfl, HR5.out, HX5.out, HP5.out, OwnG.nil hlEf _ _ _, HB5.out⟩
  case round =>
    obtain ⟨k, sv, hk, rfl, hr, hx, hp, ho, hb⟩ := hrel
    clear HR5 HX5 HP5 HB5
    by_cases hlt : k < C
    · have hq2 : (k : Int) < (C : Int) := by omega
      obtain ⟨⟨k', o', f', n', t'⟩, hy⟩ : ∃ y, (UM.ef xs (UM.efs xs q k).2).1 = y := ⟨_, rfl⟩
      have hyl := UM.efs_length xs q k
      have hsn : (UM.efs xs q (k + 1)).1 = (UM.efs xs q k).1 ++ [(k', o', f', n', t')] := by
        show (UM.efs xs q k).1 ++ [(UM.ef xs (UM.efs xs q k).2).1] = _
        rw [hy]
      have hcall := N5.out k
      rw [hy] at hcall
      have HC : Hid (∀ w', RdrB w' (w.heap.size + 1) (.slice av nv cv') (UM.efs xs q k).2 → Below w.heap.size w w' → Calls Tryd.prog 104 #[.pointer (some ⟨w.heap.size + 1, 0, none⟩)] w' fun e w'' => e = .returned (ev k' o' f' n' t') ∧ RdrB w'' (w.heap.size + 1) (.slice av nv cv') (UM.efs xs q (k + 1)).2 ∧ Only (w.heap.size + 1) w' w'') := hcall
      have HSN := Lib.hid hsn
      clear hy hcall hsn
      generalize (UM.efs xs q k).1 = ys at ho hyl HSN
      obtain ⟨asv, csv, rfl, hcsv, _⟩ := ho.out.rd.shape
      have hyb : ys.length ≤ 1073741824 := by omega
      rw [hyl] at hx ho
      have HYB := Lib.hid hyb
      have HYL := Lib.hid hyl
      have c0 : wr.drew.cell? ⟨pb, 3, none⟩ = some (.slice asv k csv) := hx.out.cells.2.2.2.1
      have hpn : pb ≠ w.heap.size + 1 := Nat.ne_of_gt HPB.out
      have HPN := Lib.hid hpn
      clear hyb hyl hpn
      have A5 : Hid (∀ w5, Only (w.heap.size + 1) wr.drew w5 → OU w5 pb x1 x2 x3 (.slice asv k csv) ∧ OU w5 w.heap.size 0 0 0 (.slice none 0 0) ∧ OwnEf w.heap.size w5 (.slice asv k csv) ys ∧ Below w.heap.size w w5) := by
        intro w5 ho5
        have hx' : OU wr.drew pb x1 x2 x3 (.slice asv k csv) := hx.out
        have hp' : OU wr.drew w.heap.size 0 0 0 (.slice none 0 0) := hp.out
        have ho' : OwnEf w.heap.size wr.drew (.slice asv k csv) ys := ho.out
        have hr' : wr.drew.heap[w.heap.size + 1]? = some (.cells #[.slice av nv cv', .int .i64 ((UM.efs xs q k).2.1 : Int), .int .i64 (UM.efs xs q k).2.2] 121 (0, 0)) := hr.out
        have hb' : Below w.heap.size w wr.drew := hb.out.drew
        exact ⟨hx'.only ho5 HPN.out, hp'.only ho5 (Nat.ne_of_lt (Nat.lt_succ_self _)), ownG_only ho' hr' (by decide) ho5, seen hb' (Nat.le_succ _) ho5⟩
      go_wp2
      go_region_law (first
        | (go_simp; go_at_call 104; refine (HC.out wr.drew hr.out hb.out.drew).mono ?_; rintro e w5 ⟨rfl, hr5, ho5⟩; obtain ⟨hX5, hP5, hO5, hB5⟩ := A5.out w5 ho5; have HR5 := Lib.hid hr5; have HX5 := Lib.hid hX5; have HP5 := Lib.hid hP5; have HO5 := Lib.hid hO5; have HB5 := Lib.hid hB5; have hsz5 := hB5.size; have c5 := hX5.cells.2.2.2.1; have c6 := below_cell (below_fresh w5 (.cells #[.int .i64 k', .string o', .string f', .int .i64 n', .string t'] 62)) c5; clear hr5 ho5 hX5 hP5 hO5 hB5)
        | (refine step_appG1 efE (k', o', f', n', t') rfl _ _ rfl rfl HO5.out rfl HYB.out hsz5 ?_; intro v6 w6 ho6 hb6 hk6; obtain ⟨av6, cv6, rfl, _, _⟩ := ho6.rd.shape; have x6 := (OU.keep (e := 62) HX5.out (by decide) hk6).cells; have x60 := x6.2.2.2.1; have x6f := x6.2.2.2.2.2.2.2))
      all_goals
        have hpb := HPB.out
        have hx6 : OU w6 pb x1 x2 x3 (.slice asv k csv) := OU.keep (e := 62) HX5.out (by decide) hk6
        have hon : Only pb w6 (w6.setCell ⟨pb, 3, none⟩ (.slice av6 (ys.length + 1) cv6)) := Only.set 3 _
        have el : (ys ++ [(k', o', f', n', t')]).length = ys.length + 1 := by simp
        rw [el] at ho6
        have HX6 := Lib.hid (hx6.put (.slice av6 (ys.length + 1) cv6))
        have HP6 := Lib.hid ((OU.keep (e := 62) HP5.out (by decide) hk6).only hon (by omega))
        have HR6 := Lib.hid ((RdrB.keep (e := 62) HR5.out (by decide) hk6).only hon (by omega))
        have HO6 := Lib.hid (show OwnEf w.heap.size (w6.setCell ⟨pb, 3, none⟩ (.slice av6 (ys.length + 1) cv6)) (.slice av6 (ys.length + 1) cv6) (UM.efs xs q (k + 1)).1 by rw [HSN.out]; exact ownG_only ho6 hx6 (by decide) hon)
        have HB6 := Lib.hid (seen (HB5.out.trans hb6) (by omega) hon)
        clear hx6 hon el ho6 hb6 hk6 x6 x60 x6f c0 c5 c6 hr hx hp ho hb HR5 HX5 HP5 HO5 HB5 hsz5 A5 HC hpb
        generalize w6.setCell ⟨pb, 3, none⟩ (.slice av6 (ys.length + 1) cv6) = w7 at HX6 HP6 HR6 HO6 HB6 ⊢
        go_wp2
        go_roundw
        case rel => exact ⟨k + 1, _, by omega, by go_num, HR6, HX6, HP6, HO6, HB6⟩
        case measure => simp [intOf]; omega
    · have hq2 : ¬ (k : Int) < (C : Int) := by omega
      obtain rfl : k = C := by omega
      have hyl := UM.efs_length xs q k
      have hfin := HR.out
      have HFY := Lib.hid (HFT.out k)
      clear HR N5
      generalize UM.efs xs q k = p at hr ho hyl hfin HFY
      obtain ⟨ys, u, er⟩ := p
      simp only at hyl
      obtain ⟨asv, csv, rfl, hcsv, _⟩ := ho.out.rd.shape
      obtain ⟨r0, r1, r2, _, _, _⟩ := hr.out.cells
      simp only at r1 r2
      obtain ⟨p0, p1, p2, p3, _⟩ := hx.out.cells
      obtain ⟨o0, o1, o2, o3, g0, g1, g2, g3⟩ := hp.out.cells
      have hpb := HPB.out
      clear hyl
      clear r0 r1 r2 p0 p1 p2 p3 o0 o1 o2 o3 g0 g1 g2 g3
      have hbb : Below w.heap.size w wr := hb.out
      have HVL := Lib.hid (fun w' (hb : Below wr.heap.size wr w') => cVal x1 x2 x3 (.slice asv ys.length csv) ys w' ((HTB.out.below hbb).below hb) (ho.out.below hb).rd HFY.out)
      obtain ⟨EG, hEG⟩ : ∃ e, e = UM.errU x1 x2 x3 ys := ⟨_, rfl⟩
      rw [← hEG] at HVL
      obtain ⟨EE, hEE⟩ : ∃ e, e = orL [er, EG] := ⟨_, rfl⟩
      have HOR := Lib.hid hEE.symm
      have HCO := Lib.hid (fun z l w (h : RdI w z l) => cOrE z l w h)
      have hRF : Hid ((EE = 0 → er = 0 ∧ EG = 0) ∧ (EE = 0 → R = (0, u, (x1, x2, x3), ys)) ∧ (¬ EE = 0 → R = UM.badU EE)) := Lib.hid (by
        rw [hfin, hEE]
        unfold UM.finU orL orL orL
        rw [← hEG]
        by_cases h1 : er = 0
        · by_cases h2 : EG = 0
          · simp [h1, h2]
          · simp [h1, h2]
        · simp [h1])
      clear hfin hEG hEE
      go_wp2
      refine wp_region_held_drew (S := fun w' => Below wr.heap.size wr w') (by kernel_rfl) ((Below.refl _ _).drew) (fun ha => ?_)
      replace ha : Below wr.heap.size wr wr.drew := (Below.refl _ _).drew
      generalize wr.drew = wa at ha ⊢
      refine takeH (i := 0) (v := ?_) rfl (by kernel_rfl) (by kernel_rfl) (by kernel_rfl) (fun _ _ _ h => h) (Or.inl ⟨by rfl, ?_⟩) (by assumption) ?_
      rotate_left
      · (intro w hSw; (try dsimp only at hSw); go_simp; first | done | with_reducible rfl)
      (try simp only [Act.put, List.setIfInBounds_toArray, List.set_cons_zero, List.set_cons_succ])
      refine takeH (i := 1) (v := ?_) rfl (by kernel_rfl) (by kernel_rfl) (by kernel_rfl) (fun _ _ _ h => h) (Or.inl ⟨by rfl, ?_⟩) (by assumption) ?_
      rotate_left
      · (intro w hSw; (try dsimp only at hSw); obtain ⟨r0, r1, r2, _, _, _⟩ := RdrB.cells (show RdrB w _ _ _ from below_block hr.out hSw) ; simp only at r2; go_simp; first | done | with_reducible rfl)
      (try simp only [Act.put, List.setIfInBounds_toArray, List.set_cons_zero, List.set_cons_succ])
      refine takeH (i := 2) (v := ?_) rfl (by kernel_rfl) (by kernel_rfl) (by kernel_rfl) (fun _ _ _ h => h) (Or.inl ⟨by rfl, ?_⟩) (by assumption) ?_
      rotate_left
      · (intro w hSw; (try dsimp only at hSw); obtain ⟨p0, p1, p2, p3, _⟩ := (hx.out.below hSw).cells; go_simp; first | done | with_reducible rfl)
      (try simp only [Act.put, List.setIfInBounds_toArray, List.set_cons_zero, List.set_cons_succ])
      refine wpAnyH_ready (rs := [3]) (by kernel_rfl) (by simp) ?_
      refine stepH rfl (fun K hK => ?_) AllReadyH.nil
      go_simp
      refine (HVL.out wa ha).mono ?_
      rintro e wb ⟨rfl, hq⟩
      have hc := bnext ha hq
      go_wp2_with fail
      refine hK.out _ _ (hc) (fun _ => ?_)
      clear hK K
      (try simp only [Act.put, List.setIfInBounds_toArray, List.set_cons_zero, List.set_cons_succ])
      have hrd := rd2e wb er EG
      refine wpAnyH_ready (rs := [4]) (by kernel_rfl) (by simp) ?_
      refine stepH rfl (fun K hK => ?_) AllReadyH.nil
      go_simp
      have hd := bnext hc (below_fresh wb (.cells #[.int .i64 er, .int .i64 EG] 26))
      refine hK.out _ _ (hd) (fun _ => ?_)
      clear hK K
      (try simp only [Act.put, List.setIfInBounds_toArray, List.set_cons_zero, List.set_cons_succ])
      generalize wb.alloc (.cells #[.int .i64 er, .int .i64 EG] 26) = wd at hd hrd ⊢
      refine wpAnyH_ready (rs := [5]) (by kernel_rfl) (by simp) ?_
      refine stepH rfl (fun K hK => ?_) AllReadyH.nil
      go_simp
      refine (HCO.out _ _ wd hrd).mono ?_
      rintro e we ⟨rfl, rfl⟩
      rw [HOR.out]
      go_wp2_with fail
      refine hK.out _ _ (hd) (fun _ => ?_)
      clear hK K
      (try simp only [Act.put, List.setIfInBounds_toArray, List.set_cons_zero, List.set_cons_succ])
      refine takeH (i := 6) (v := ?_) rfl (by kernel_rfl) (by kernel_rfl) (by kernel_rfl) (fun _ _ _ h => h) (Or.inl ⟨by rfl, ?_⟩) (by assumption) ?_
      rotate_left
      · (intro w hSw; (try dsimp only at hSw); go_simp; first | done | with_reducible rfl)
      (try simp only [Act.put, List.setIfInBounds_toArray, List.set_cons_zero, List.set_cons_succ])
      refine wpAnyH_done (by kernel_rfl) ?_ _
      have HX5 := Lib.hid (hx.out.below hd)
      have HP5 := Lib.hid (hp.out.below hd)
      have HR5 := Lib.hid (show RdrB wd (w.heap.size + 1) (.slice av nv cv') (u, er) from below_block hr.out hd)
      have HO5 := Lib.hid (ho.out.below hd)
      have HB5 := Lib.hid (bnext hb.out hd)
      clear hr hx hp ho hb ha hc hd hrd HVL HCO HOR
      by_cases hE : EE = 0
      · have HFIN := Lib.hid (hRF.out.2.1 hE)
        have HZZ := Lib.hid (hRF.out.1 hE)
        have hneb : (EE != 0) = false := by simp [hE]
        clear hRF hE
        obtain ⟨r0, r1, r2, _, _, _⟩ := HR5.out.cells
        obtain ⟨p0, p1, p2, p3, _⟩ := HX5.out.cells
        obtain ⟨o0, o1, o2, o3, g0, g1, g2, g3⟩ := HP5.out.cells
        simp only at r1 r2
        have hsub : er = 0 ∧ EG = 0 := HZZ.out
        obtain ⟨he0, _⟩ := hsub
        subst he0
        go_wp2
        obtain ⟨w5, hw5⟩ : ∃ w5, w5 = wd := ⟨_, rfl⟩
        subst hw5
        refine wp_region_held_drew (S := fun w' => OU w' pb x1 x2 x3 (.slice asv ys.length csv) ∧ RdrB w' (w.heap.size + 1) (.slice av nv cv') (u, 0)) (by kernel_rfl) ⟨HX5.out, HR5.out⟩ (fun hHeld => ?_)
        refine takeH (i := 0) (v := ?_) rfl (by kernel_rfl) (by kernel_rfl) (by kernel_rfl) (fun _ _ _ h => h) (Or.inl ⟨by rfl, ?_⟩) (by assumption) ?_
        rotate_left
        · (intro w hSw; (try dsimp only at hSw); obtain ⟨p0, p1, p2, p3, _⟩ := hSw.1.cells; go_simp; first | done | with_reducible rfl)
        (try simp only [Act.put, List.setIfInBounds_toArray, List.set_cons_zero, List.set_cons_succ])
        refine takeH (i := 1) (v := ?_) rfl (by kernel_rfl) (by kernel_rfl) (by kernel_rfl) (fun _ _ _ h => h) (Or.inl ⟨by rfl, ?_⟩) (by assumption) ?_
        rotate_left
        · (intro w hSw; (try dsimp only at hSw); go_simp; first | done | with_reducible rfl)
        (try simp only [Act.put, List.setIfInBounds_toArray, List.set_cons_zero, List.set_cons_succ])
        refine takeH (i := 2) (v := ?_) rfl (by kernel_rfl) (by kernel_rfl) (by kernel_rfl) (fun _ _ _ h => h) (Or.inl ⟨by rfl, ?_⟩) (by assumption) ?_
        rotate_left
        · (intro w hSw; (try dsimp only at hSw); obtain ⟨r0, r1, r2, _, _, _⟩ := hSw.2.cells; simp only at r1; go_simp; first | done | with_reducible rfl)
        (try simp only [Act.put, List.setIfInBounds_toArray, List.set_cons_zero, List.set_cons_succ])
        have hs5 : OU w5.drew pb x1 x2 x3 (.slice asv ys.length csv) ∧ RdrB w5.drew (w.heap.size + 1) (.slice av nv cv') (u, 0) := ⟨HX5.out, HR5.out⟩
        have HP6 := Lib.hid (show OU w5.drew w.heap.size 0 0 0 (.slice none 0 0) from HP5.out)
        have HO6 := Lib.hid (show OwnEf w.heap.size w5.drew (.slice asv ys.length csv) ys from HO5.out)
        have HB6 := Lib.hid HB5.out.drew
        clear HX5 HP5 HR5 HO5 HB5 r0 r1 r2 p0 p1 p2 p3 o0 o1 o2 o3 g0 g1 g2 g3 hHeld
        generalize w5.drew = w6 at HP6 HO6 HB6 hs5 ⊢
        obtain ⟨o0, o1, o2, o3, g0, g1, g2, g3⟩ := HP6.out.cells
        refine wpAnyH_ready (rs := [3]) (by kernel_rfl) (by simp) ?_
        refine stepH rfl (fun K hK => ?_) AllReadyH.nil
        go_simp
        refine hK.out _ _ ⟨hs5.1.only (only4 _ _ _ _) (by omega), hs5.2.only (only4 _ _ _ _) (by omega)⟩ (fun hHeld => ?_)
        clear hK K
        (try simp only [Act.put, List.setIfInBounds_toArray, List.set_cons_zero, List.set_cons_succ])
        refine takeH (i := 4) (v := ?_) rfl (by kernel_rfl) (by kernel_rfl) (by kernel_rfl) (fun _ _ _ h => h) (Or.inl ⟨by rfl, ?_⟩) (by assumption) ?_
        rotate_left
        · (intro w hSw; (try dsimp only at hSw); go_simp; first | done | with_reducible rfl)
        (try simp only [Act.put, List.setIfInBounds_toArray, List.set_cons_zero, List.set_cons_succ])
        refine takeH (i := 5) (v := ?_) rfl (by kernel_rfl) (by kernel_rfl) (by kernel_rfl) (fun _ _ _ h => h) (Or.inl ⟨by rfl, ?_⟩) (by assumption) ?_
        rotate_left
        · (intro w hSw; (try dsimp only at hSw); go_simp; first | done | with_reducible rfl)
        (try simp only [Act.put, List.setIfInBounds_toArray, List.set_cons_zero, List.set_cons_succ])
        refine wpAnyH_done (by kernel_rfl) ?_ _
        go_wp2
        refine udec_ret rfl rfl rfl (HP6.out.put4 x1 x2 x3 _) rfl ⟨.slice asv ys.length csv, ?_, ?_, ?_⟩
        · rw [HFIN.out]
        · rw [HFIN.out]
          exact (ownG_only HO6.out HP6.out (by decide) (only4 _ _ _ _))
        · exact seen HB6.out (Nat.le_refl _) (only4 _ _ _ _)
      · have HFIN := Lib.hid (hRF.out.2.2 hE)
        have hneb : (EE != 0) = true := by simpa using hE
        clear hRF hE
        obtain ⟨o0, o1, o2, o3, g0, g1, g2, g3⟩ := HP5.out.cells
        go_wp2
        refine udec_ret rfl rfl rfl (HP5.out.put4 0 0 0 (.slice none 0 0)) rfl ⟨.slice none 0 0, ?_, ?_, ?_⟩
        · rw [HFIN.out]; rfl
        · rw [HFIN.out]; exact OwnG.nil hlEf _ _ _
        · exact seen HB5.out (Nat.le_refl _) (only4 _ _ _ _)

end Go.Proofs.YtdfablboenfblaaDoor
