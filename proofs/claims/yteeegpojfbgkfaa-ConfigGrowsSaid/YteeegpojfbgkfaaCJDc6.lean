/-
  The call of proposal.Decode (its second make): it returns what the plain mathematics says of the bytes. Conditions: the slice reads as bytes.
-/
import Derived.Deep.RegionHeld3
import Derived.Test.YteeegpojfbgkfaaKE
namespace Go.Proofs.Yteeegpojfbgkfaa.CO
open Go.RowKit
open JM (Chg St)

theorem errE : IsElem Try.prog 135 25 1 8 encI where
  ht := Try.underlying135
  info := by
    obtain ⟨i0, hi, hz0, hz1, hz2⟩ := info_parts (show (Try.prog.info? 25).map (fun i => (i.zero, i.size, i.bytes)) = some (some (.int .i64 0), 1, 8) by kernel_rfl)
    exact ⟨i0, _, hi, hz0, hz1, hz2, rfl⟩
  len := fun _ => rfl
  one := by intro x u hu; simp [encI] at hu; subst hu; rfl
  pos := by decide
  fits := by decide
theorem atEr {w : World} {a : Option Addr} {n c : Nat} {xs : List Int} (h : RdI w (.slice a n c) xs) (k : Nat) (x : Int) (hk : xs[k]? = some x) :
    ∃ b o, (∀ w0, (Instr.indexAt 135 (.slice a n c) (.int .i64 (k : Int))).run Try.prog w0 = .ok (.pointer (some ⟨b, o, none⟩)) w0) ∧ b < w.heap.size ∧ w.cell? ⟨b, o, none⟩ = some (.int .i64 x) := by
  obtain ⟨b, o, h1, h2, h3⟩ := h.at_ errE k x hk
  exact ⟨b, o, h1, h2, h3 0 _ rfl⟩

def orL : List Int → Int
  | [] => 0
  | x :: l => if x = 0 then orL l else x

set_option maxRecDepth 100000 in
set_option maxHeartbeats 1000000 in
theorem cOrE (v : Value) (xs : List Int) (w : World) (h : RdI w v xs) : Calls Try.prog 100 #[v] w fun e w' => e = .returned (.int .i64 (orL xs)) ∧ w = w' := by
  obtain ⟨ad, c, rfl, hc, hl⟩ := h.shape
  have H := Lib.hid h
  clear h
  obtain ⟨R, hR⟩ : ∃ R, R = orL xs := ⟨_, rfl⟩
  rw [← hR]
  have HR := Lib.hid (show R = orL (xs.drop 0) from hR)
  clear hR
  go_enter Try.func100, Try.ntmps100
  go_wp2
  go_loop [8] (fun i => ∃ k : Nat, k ≤ xs.length ∧ i = .int .i64 k ∧ Hid (R = orL (xs.drop k))) (fun i => xs.length - (intOf i).toNat)
  case atStart => exact ⟨0, Nat.zero_le _, rfl, HR⟩
  case round =>
    obtain ⟨k, hk, rfl, he⟩ := hrel
    clear HR
    by_cases hlt : k < xs.length
    · obtain ⟨b, o, hi, hb, c0⟩ := atEr H.out k xs[k] (List.getElem?_eq_getElem hlt)
      have hq : (k : Int) < (xs.length : Int) := by omega
      have hdx := Lib.hid (drop_get hlt)
      generalize xs[k] = x at c0 hdx
      by_cases h0 : x = 0
      · have e2 := Lib.hid (show R = orL (xs.drop (k + 1)) by rw [he.out, hdx.out, orL, if_pos h0])
        subst h0
        clear he hdx
        go_wp2
        go_round
        case rel => exact ⟨k + 1, by omega, by go_num, e2⟩
        case measure => simp [intOf]; omega
      · have e2 := Lib.hid (show R = x by rw [he.out, hdx.out, orL, if_neg h0])
        have hne : (x != 0) = true := bne_t h0
        clear he hdx h0
        go_wp2
        go_ret
        rw [e2.out]
        exact ⟨rfl, rfl⟩
    · have hq : ¬ ((k : Int) < (xs.length : Int)) := by omega
      have e2 := Lib.hid (show R = 0 by rw [he.out, List.drop_of_length_le (by omega)]; rfl)
      clear he
      go_wp2
      go_ret
      rw [e2.out]
      exact ⟨rfl, rfl⟩

theorem rd2e (w : World) (x y : Int) : RdI (w.alloc (.cells #[.int .i64 x, .int .i64 y] 25)) (.slice (some ⟨w.heap.size, 0, none⟩) 2 2) [x, y] := (ownG_fresh hlI 25 w [x, y] (by unfold maxLen; simp)).rd

/-- What Decode makes of what has been read. -/
def fin (a n : Int) (p : List Chg × St) : Int × Nat × Int × Int × List Chg :=
  if p.2.2 ≠ 0 then JM.bad p.2.2 else if JM.errP a n p.1 ≠ 0 then JM.bad (JM.errP a n p.1) else (0, p.2.1, a, n, p.1)
theorem many3 {xs : List Int} {s s1 s2 s3 : St} {x1 x2 x3 : Int} (h1 : JM.step xs s = (x1, s1)) (h2 : JM.step xs s1 = (x2, s2)) (h3 : JM.step xs s2 = (x3, s3)) : JM.many xs s 3 = ([x1, x2, x3], s3) := by
  simp [JM.many, h1, h2, h3]
theorem step_zero {xs : List Int} {s s' : St} {x : Int} (h : JM.step xs s = (x, s')) (hx : 0 < x) : s'.2 = 0 := by
  unfold JM.step at h
  split at h
  · cases h; omega
  split at h
  · cases h; omega
  · cases h; rfl
theorem decP_run {xs : List Int} {s1 s2 s3 : St} {x1 x2 x3 : Int} (h1 : JM.step xs (0, 0) = (x1, s1)) (h2 : JM.step xs s1 = (x2, s2)) (h3 : JM.step xs s2 = (x3, s3)) :
    JM.decP xs = fin x1 x2 (JM.chs xs (if 6 < x3 then (s3.1, 3) else s3) (if 6 < x3 then 0 else x3).toNat) := by
  have hm := many3 h1 h2 h3
  have hc : JM.cnt xs = x3 := by unfold JM.cnt; rw [hm]; rfl
  unfold JM.decP
  rw [hc, hm]
  by_cases h6 : 6 < x3
  · have hz := step_zero h3 (by omega)
    simp only [if_pos h6]
    rw [if_neg (by rw [hz]; simp)]
    rfl
  · simp only [if_neg h6]
    by_cases hs : s3.2 = 0
    · rw [if_neg (by rw [hs]; simp)]
      rfl
    · rw [if_pos hs]
      unfold fin
      rw [JM.chs_stop hs, if_pos hs]

theorem dec_ret {R : Ending → World → Prop} {a : Act} {w : World} {g : Nat} {x n : Int} {s : Value} {u er : Int} (hp : a.tmps.getD 2 undef = .pointer (some ⟨g, 0, none⟩)) (h3 : a.tmps.getD 3 undef = .int .i64 u) (h4 : a.tmps.getD 4 undef = .int .i64 er) (hg : OP w g x n s)
    (hd : a.defers = []) (hR : R (.returned (.tuple #[pv x n s, .int .i64 u, .int .i64 er])) w) : bodyPost Try.prog Try.f76 R .ret a w := by
  have := results_cell_tmp_tmp (P := Try.prog) (fn := Try.f76) rfl a.tmps w g 45 _ _ _ hp hg Try.underlying45 rfl (by kernel_rfl)
  rw [h3, h4] at this
  exact bodyPost_ret this hd hR

set_option maxRecDepth 100000 in
set_option maxHeartbeats 4000000 in
theorem cDecode (v : Value) (xs : List Int) (w : World) (h : Rd w v xs) :
    Calls Try.prog 76 #[v] w fun e w' => ∃ sv, e = .returned (.tuple #[pv (JM.decP xs).2.2.1 (JM.decP xs).2.2.2.1 sv, .int .i64 ((JM.decP xs).2.1 : Int), .int .i64 (JM.decP xs).1]) ∧ OwnC w.heap.size w' sv (JM.decP xs).2.2.2.2 ∧ Below w.heap.size w w' := by
  have hby := h.bytes
  obtain ⟨⟨x1, s1⟩, h1⟩ : ∃ p, JM.step xs (0, 0) = p := ⟨_, rfl⟩
  obtain ⟨⟨x2, s2⟩, h2⟩ : ∃ p, JM.step xs s1 = p := ⟨_, rfl⟩
  obtain ⟨⟨x3, s3⟩, h3⟩ : ∃ p, JM.step xs s2 = p := ⟨_, rfl⟩
  have u1 : s1.1 ≤ xs.length := by have := (JM.step_small xs (0, 0) hby (Nat.zero_le _)).2; rw [h1] at this; exact this
  have u2 : s2.1 ≤ xs.length := by have := (JM.step_small xs s1 hby u1).2; rw [h2] at this; exact this
  have u3 : s3.1 ≤ xs.length := by have := (JM.step_small xs s2 hby u2).2; rw [h3] at this; exact this
  have hx3 : JM.small x3 := by have := (JM.step_small xs s2 hby u2).1; rw [h3] at this; exact this
  rw [decP_run h1 h2 h3]
  obtain ⟨q, hq⟩ : ∃ q : St, q = if 6 < x3 then (s3.1, 3) else s3 := ⟨_, rfl⟩
  obtain ⟨C, hC⟩ : ∃ C : Nat, C = (if 6 < x3 then 0 else x3).toNat := ⟨_, rfl⟩
  have hCi : (if 6 < x3 then 0 else x3) = (C : Int) := by unfold JM.small at hx3; rw [hC]; split <;> omega
  have hC6 : C ≤ 6 := by rw [hC]; split <;> omega
  have huq : q.1 ≤ xs.length := by rw [hq]; split <;> exact u3
  rw [← hq, ← hC]
  obtain ⟨R, hR⟩ : ∃ R, R = fin x1 x2 (JM.chs xs q C) := ⟨_, rfl⟩
  rw [← hR]
  have HR := Lib.hid hR
  clear hR
  obtain ⟨ZP, hZP⟩ : ∃ Z, Z = Obj.cells #[.int .i64 0, .int .i64 0, .slice none 0 0] 45 := ⟨_, rfl⟩
  obtain ⟨ZR, hZR⟩ : ∃ Z, Z = Obj.cells #[v, .int .i64 0, .int .i64 0] 116 := ⟨_, rfl⟩
  have b0 := below_fresh w ZP
  have hP0 : OP (w.alloc ZP) w.heap.size 0 0 (.slice none 0 0) := by rw [hZP]; exact OP.fresh w 0 0 _
  have hs0 := World.size_alloc w ZP
  have b1 := below_fresh (w.alloc ZP) ZR
  have hR1 : RdrB ((w.alloc ZP).alloc ZR) (w.heap.size + 1) v (0, 0) := by rw [hZR, ← hs0]; exact heap_alloc_new (w.alloc ZP) _
  have hP1 := hP0.below b1
  have hB1 := bnext b0 b1
  generalize hw1 : (w.alloc ZP).alloc ZR = w1 at hB1 hR1 hP1
  have HW1 := Lib.hid hw1
  have HZP := Lib.hid hZP
  have HZR := Lib.hid hZR
  have HB1 := Lib.hid hB1
  have HR1 := Lib.hid hR1
  have HP1 := Lib.hid hP1
  have HV := Lib.hid h
  have N1 : Hid (∀ w', RdrB w' (w.heap.size + 1) v (0, 0) → Below w.heap.size w w' → Calls Try.prog 97 #[.pointer (some ⟨w.heap.size + 1, 0, none⟩)] w' fun e w'' => e = .returned (.int .i64 x1) ∧ RdrB w'' (w.heap.size + 1) v s1 ∧ Only (w.heap.size + 1) w' w'') := by
    intro w' hr hb
    have := rdNumber _ v xs (0, 0) w' hr (h.below hb) (Nat.zero_le _)
    rw [h1] at this; exact this
  have N2 : Hid (∀ w', RdrB w' (w.heap.size + 1) v s1 → Below w.heap.size w w' → Calls Try.prog 97 #[.pointer (some ⟨w.heap.size + 1, 0, none⟩)] w' fun e w'' => e = .returned (.int .i64 x2) ∧ RdrB w'' (w.heap.size + 1) v s2 ∧ Only (w.heap.size + 1) w' w'') := by
    intro w' hr hb
    have := rdNumber _ v xs s1 w' hr (h.below hb) u1
    rw [h2] at this; exact this
  have N3 : Hid (∀ w', RdrB w' (w.heap.size + 1) v s2 → Below w.heap.size w w' → Calls Try.prog 98 #[.pointer (some ⟨w.heap.size + 1, 0, none⟩), .int .i64 6] w' fun e w'' => e = .returned (.int .i64 (C : Int)) ∧ RdrB w'' (w.heap.size + 1) v q ∧ Only (w.heap.size + 1) w' w'') := by
    intro w' hr hb
    have := rdCount _ v xs s2 w' hr (h.below hb) u2
    rw [h3] at this
    simp only at this
    rw [hCi, ← hq] at this
    exact this
  have N4 : Hid (∀ (k : Nat) w', RdrB w' (w.heap.size + 1) v (JM.chs xs q k).2 → Below w.heap.size w w' → Calls Try.prog 99 #[.pointer (some ⟨w.heap.size + 1, 0, none⟩)] w' fun e w'' => e = .returned (cvT (JM.toChg (JM.many xs (JM.chs xs q k).2 7).1)) ∧ RdrB w'' (w.heap.size + 1) v (JM.chs xs q (k + 1)).2 ∧ Only (w.heap.size + 1) w' w'') := by
    intro k w' hr hb
    exact rdChange w _ v xs _ w' hr h hb (Nat.le_succ _) (JM.chs_used xs q hby huq k)
  have hlg : w.heap.size + 1 < w1.heap.size := (Array.getElem?_eq_some_iff.1 hR1).1
  have HLG := Lib.hid hlg
  clear h hby h1 h2 h3 u1 u2 u3 hx3 hq hC hCi huq hZP hZR b0 hP0 hs0 b1 hR1 hP1 hB1 hw1 hlg
  obtain ⟨av, nv, cv', rfl⟩ : ∃ a n c, v = .slice a n c := by obtain ⟨a, c, hv, _⟩ := HV.out.shape; exact ⟨_, _, _, hv⟩
  go_enter Try.func76, Try.ntmps76
  go_wp2_with fail
  rw [← HZP.out, ← HZR.out, HW1.out]
  refine (N1.out _ HR1.out HB1.out).mono ?_
  rintro e w2 ⟨rfl, hr, ho⟩
  have HB2 := Lib.hid (seen HB1.out (Nat.le_succ _) ho)
  have HP2 := Lib.hid (HP1.out.only ho (by omega))
  have HL2 := Lib.hid (Nat.lt_of_lt_of_le HLG.out ho.size)
  have HR2 := Lib.hid hr
  clear hr ho N1 HR1 HP1 HB1 HLG HW1 HZR
  go_wp2_with fail
  refine (N2.out _ HR2.out HB2.out).mono ?_
  rintro e w3 ⟨rfl, hr, ho⟩
  have HB3 := Lib.hid (seen HB2.out (Nat.le_succ _) ho)
  have HP3 := Lib.hid (HP2.out.only ho (by omega))
  have HL3 := Lib.hid (Nat.lt_of_lt_of_le HL2.out ho.size)
  have HR3 := Lib.hid hr
  clear hr ho N2 HR2 HP2 HB2 HL2
  go_wp2_with fail
  have b4 := below_fresh w3 (.cells #[.int .i64 x1, .int .i64 x2, .slice none 0 0] 45)
  have hX4 := OP.fresh w3 x1 x2 (.slice none 0 0)
  have hP4 := HP3.out.below b4
  have hR4 : RdrB (w3.alloc (.cells #[.int .i64 x1, .int .i64 x2, .slice none 0 0] 45)) (w.heap.size + 1) _ s2 := below_block HR3.out b4
  have hB4 := bnext HB3.out b4
  generalize w3.alloc (.cells #[.int .i64 x1, .int .i64 x2, .slice none 0 0] 45) = w4 at b4 hX4 hP4 hR4 hB4 ⊢
  obtain ⟨pb, hpb⟩ : ∃ pb, pb = w3.heap.size := ⟨_, rfl⟩
  rw [← hpb] at hX4 ⊢
  have HPB := Lib.hid (show w.heap.size + 1 < pb by rw [hpb]; exact HL3.out)
  have hne : pb ≠ w.heap.size + 1 := Nat.ne_of_gt HPB.out
  refine (N3.out _ hR4 hB4).mono ?_
  rintro e w5 ⟨rfl, hr, ho⟩
  have HX5 := Lib.hid (hX4.only ho hne)
  have HP5 := Lib.hid (hP4.only ho (by omega))
  have HR5 := Lib.hid hr
  have HB5 := Lib.hid (seen hB4 (Nat.le_succ _) ho)
  clear hr ho N3 HR3 HP3 HB3 HL3 b4 hX4 hP4 hR4 hB4 hne hpb
  go_wp2
  go_loopw [14] (fun i wr => ∃ (k : Nat) (sv : Value), k ≤ C ∧ i = .int .i64 k ∧ Hid (RdrB wr (w.heap.size + 1) (.slice av nv cv') (JM.chs xs q k).2) ∧ Hid (OP wr pb x1 x2 sv) ∧ Hid (OP wr w.heap.size 0 0 (.slice none 0 0)) ∧ Hid (OwnC w.heap.size wr sv (JM.chs xs q k).1) ∧ Hid (Below w.heap.size w wr)) (fun i _ => C - (intOf i).toNat)
  case atStart => exact ⟨0, _, Nat.zero_le _, rfl, HR5.out, HX5.out, HP5.out, OwnG.nil hlC _ _ _, HB5.out⟩
  case round =>
    obtain ⟨k, sv, hk, rfl, hr, hx, hp, ho, hb⟩ := hrel
    clear HR5 HX5 HP5 HB5
    by_cases hlt : k < C
    · have hq2 : (k : Int) < (C : Int) := by omega
      obtain ⟨⟨k', s', t', v', a', b', c'⟩, hy⟩ : ∃ y, JM.toChg (JM.many xs (JM.chs xs q k).2 7).1 = y := ⟨_, rfl⟩
      have hyl := JM.chs_length xs q k
      have hsn : (JM.chs xs q (k + 1)).1 = (JM.chs xs q k).1 ++ [(k', s', t', v', a', b', c')] := by
        show (JM.chs xs q k).1 ++ [JM.toChg (JM.many xs (JM.chs xs q k).2 7).1] = _
        rw [hy]
      have hcall := N4.out k
      rw [hy] at hcall
      have HC : Hid (∀ w', RdrB w' (w.heap.size + 1) (.slice av nv cv') (JM.chs xs q k).2 → Below w.heap.size w w' → Calls Try.prog 99 #[.pointer (some ⟨w.heap.size + 1, 0, none⟩)] w' fun e w'' => e = .returned (cv k' s' t' v' a' b' c') ∧ RdrB w'' (w.heap.size + 1) (.slice av nv cv') (JM.chs xs q (k + 1)).2 ∧ Only (w.heap.size + 1) w' w'') := hcall
      have HSN := Lib.hid hsn
      clear hy hcall hsn
      generalize (JM.chs xs q k).1 = ys at ho hyl HSN
      obtain ⟨asv, csv, rfl, hcsv, _⟩ := ho.out.rd.shape
      have hyb : ys.length ≤ 1073741824 := by omega
      rw [hyl] at hx ho
      have HYB := Lib.hid hyb
      have HYL := Lib.hid hyl
      have c0 : wr.drew.cell? ⟨pb, 2, none⟩ = some (.slice asv k csv) := hx.out.cells.2.2.1
      have hpn : pb ≠ w.heap.size + 1 := Nat.ne_of_gt HPB.out
      have HPN := Lib.hid hpn
      clear hyb hyl hpn
      have A5 : Hid (∀ w5, Only (w.heap.size + 1) wr.drew w5 → OP w5 pb x1 x2 (.slice asv k csv) ∧ OP w5 w.heap.size 0 0 (.slice none 0 0) ∧ OwnC w.heap.size w5 (.slice asv k csv) ys ∧ Below w.heap.size w w5) := by
        intro w5 ho5
        have hx' : OP wr.drew pb x1 x2 (.slice asv k csv) := hx.out
        have hp' : OP wr.drew w.heap.size 0 0 (.slice none 0 0) := hp.out
        have ho' : OwnC w.heap.size wr.drew (.slice asv k csv) ys := ho.out
        have hr' : wr.drew.heap[w.heap.size + 1]? = some (.cells #[.slice av nv cv', .int .i64 ((JM.chs xs q k).2.1 : Int), .int .i64 (JM.chs xs q k).2.2] 116 (0, 0)) := hr.out
        have hb' : Below w.heap.size w wr.drew := hb.out.drew
        exact ⟨hx'.only ho5 HPN.out, hp'.only ho5 (Nat.ne_of_lt (Nat.lt_succ_self _)), ownC_only ho' hr' (by decide) ho5, seen hb' (Nat.le_succ _) ho5⟩
      go_wp2
      go_region_law (first
        | (go_simp; go_at_call 99; refine (HC.out wr.drew hr.out hb.out.drew).mono ?_; rintro e w5 ⟨rfl, hr5, ho5⟩; obtain ⟨hX5, hP5, hO5, hB5⟩ := A5.out w5 ho5; have HR5 := Lib.hid hr5; have HX5 := Lib.hid hX5; have HP5 := Lib.hid hP5; have HO5 := Lib.hid hO5; have HB5 := Lib.hid hB5; have hsz5 := hB5.size; have c5 := hX5.cells.2.2.1; have c6 := below_cell (below_fresh w5 (.cells #[.int .i64 k', .int .i64 s', .int .i64 t', .int .i64 v', .int .i64 a', .int .i64 b', .int .i64 c'] 63)) c5; clear hr5 ho5 hX5 hP5 hO5 hB5)
        | (refine step_appG1 chgE (k', s', t', v', a', b', c') rfl _ _ rfl rfl HO5.out rfl HYB.out hsz5 ?_; intro v6 w6 ho6 hb6 hk6; obtain ⟨av6, cv6, rfl, _, _⟩ := ho6.rd.shape; have x6 := (OP.keep (e := 63) HX5.out (by decide) hk6).cells; have x60 := x6.2.2.1; have x6f := x6.2.2.2.2.2))
      all_goals
        have hpb := HPB.out
        have hx6 : OP w6 pb x1 x2 (.slice asv k csv) := OP.keep (e := 63) HX5.out (by decide) hk6
        have hon : Only pb w6 (w6.setCell ⟨pb, 2, none⟩ (.slice av6 (ys.length + 1) cv6)) := Only.set 2 _
        have el : (ys ++ [(k', s', t', v', a', b', c')]).length = ys.length + 1 := by simp
        rw [el] at ho6
        have HX6 := Lib.hid (hx6.put (.slice av6 (ys.length + 1) cv6))
        have HP6 := Lib.hid ((OP.keep (e := 63) HP5.out (by decide) hk6).only hon (by omega))
        have HR6 := Lib.hid ((RdrB.keep (e := 63) HR5.out (by decide) hk6).only hon (by omega))
        have HO6 := Lib.hid (show OwnC w.heap.size (w6.setCell ⟨pb, 2, none⟩ (.slice av6 (ys.length + 1) cv6)) (.slice av6 (ys.length + 1) cv6) (JM.chs xs q (k + 1)).1 by rw [HSN.out]; exact ownC_only ho6 hx6 (by decide) hon)
        have HB6 := Lib.hid (seen (HB5.out.trans hb6) (by omega) hon)
        clear hx6 hon el ho6 hb6 hk6 x6 x60 x6f c0 c5 c6 hr hx hp ho hb HR5 HX5 HP5 HO5 HB5 hsz5 A5 HC hpb
        generalize w6.setCell ⟨pb, 2, none⟩ (.slice av6 (ys.length + 1) cv6) = w7 at HX6 HP6 HR6 HO6 HB6 ⊢
        go_wp2
        go_roundw
        case rel => exact ⟨k + 1, _, by omega, by go_num, HR6, HX6, HP6, HO6, HB6⟩
        case measure => simp [intOf]; omega
    · have hq2 : ¬ (k : Int) < (C : Int) := by omega
      obtain rfl : k = C := by omega
      have hyl := JM.chs_length xs q k
      have hfin := HR.out
      clear HR N4
      generalize JM.chs xs q k = p at hr ho hyl hfin
      obtain ⟨ys, u, er⟩ := p
      simp only at hyl
      obtain ⟨asv, csv, rfl, hcsv, _⟩ := ho.out.rd.shape
      obtain ⟨r0, r1, r2, _, _, _⟩ := hr.out.cells
      simp only at r1 r2
      obtain ⟨p0, p1, p2, _, _, _⟩ := hx.out.cells
      obtain ⟨o0, o1, o2, g0, g1, g2⟩ := hp.out.cells
      have hpb := HPB.out
      clear hyl
      clear r0 r1 r2 p0 p1 p2 o0 o1 o2 g0 g1 g2
      have HVL := Lib.hid (fun w' (hb : Below wr.heap.size wr w') => cValidate x1 x2 (.slice asv ys.length csv) ys w' (ho.out.below hb).rd)
      obtain ⟨EG, hEG⟩ : ∃ e, e = JM.errP x1 x2 ys := ⟨_, rfl⟩
      rw [← hEG] at HVL
      obtain ⟨EE, hEE⟩ : ∃ e, e = orL [er, EG] := ⟨_, rfl⟩
      have HOR := Lib.hid hEE.symm
      have HCO := Lib.hid (fun z l w (h : RdI w z l) => cOrE z l w h)
      have hRF : Hid ((EE = 0 → er = 0 ∧ EG = 0) ∧ (EE = 0 → R = (0, u, x1, x2, ys)) ∧ (¬ EE = 0 → R = JM.bad EE)) := Lib.hid (by
        rw [hfin, hEE]
        unfold fin orL orL orL
        rw [← hEG]
        by_cases h1 : er = 0
        · by_cases h2 : EG = 0
          · simp [h1, h2]
          · simp [h1, h2]
        · simp [h1])
      clear hfin hEG hEE
      go_wp2
      refine wp_region_held_drew (S := fun w' => Below wr.heap.size wr w') (by kernel_rfl) ((Below.refl _ _).drew) (fun ha => ?_)
      replace ha : Below wr.heap.size wr wr.drew := (Below.refl _ _).drew
      generalize wr.drew = wa at ha ⊢
      refine takeH (i := 0) (v := ?_) rfl (by kernel_rfl) (by kernel_rfl) (by kernel_rfl) (fun _ _ _ h => h) (Or.inl ⟨by rfl, ?_⟩) (by assumption) ?_
      rotate_left
      · (intro w hSw; (try dsimp only at hSw); go_simp; first | done | with_reducible rfl)
      (try simp only [Act.put, List.setIfInBounds_toArray, List.set_cons_zero, List.set_cons_succ])
      refine takeH (i := 1) (v := ?_) rfl (by kernel_rfl) (by kernel_rfl) (by kernel_rfl) (fun _ _ _ h => h) (Or.inl ⟨by rfl, ?_⟩) (by assumption) ?_
      rotate_left
      · (intro w hSw; (try dsimp only at hSw); obtain ⟨r0, r1, r2, _, _, _⟩ := RdrB.cells (show RdrB w _ _ _ from below_block hr.out hSw) ; simp only at r2; go_simp; first | done | with_reducible rfl)
      (try simp only [Act.put, List.setIfInBounds_toArray, List.set_cons_zero, List.set_cons_succ])
      refine takeH (i := 2) (v := ?_) rfl (by kernel_rfl) (by kernel_rfl) (by kernel_rfl) (fun _ _ _ h => h) (Or.inl ⟨by rfl, ?_⟩) (by assumption) ?_
      rotate_left
      · (intro w hSw; (try dsimp only at hSw); obtain ⟨p0, p1, p2, _, _, _⟩ := (hx.out.below hSw).cells; go_simp; first | done | with_reducible rfl)
      (try simp only [Act.put, List.setIfInBounds_toArray, List.set_cons_zero, List.set_cons_succ])
      refine wpAnyH_ready (rs := [3]) (by kernel_rfl) (by simp) ?_
      refine stepH rfl (fun K hK => ?_) AllReadyH.nil
      go_simp
      refine (HVL.out wa ha).mono ?_
      rintro e wb ⟨rfl, hq⟩
      have hc := bnext ha hq
      go_wp2_with fail
      refine hK.out _ _ (hc) (fun _ => ?_)
      clear hK K
      (try simp only [Act.put, List.setIfInBounds_toArray, List.set_cons_zero, List.set_cons_succ])
      have hrd := rd2e wb er EG
      refine wpAnyH_ready (rs := [4]) (by kernel_rfl) (by simp) ?_
      refine stepH rfl (fun K hK => ?_) AllReadyH.nil
      go_simp
      have hd := bnext hc (below_fresh wb (.cells #[.int .i64 er, .int .i64 EG] 25))
      refine hK.out _ _ (hd) (fun _ => ?_)
      clear hK K
      (try simp only [Act.put, List.setIfInBounds_toArray, List.set_cons_zero, List.set_cons_succ])
      generalize wb.alloc (.cells #[.int .i64 er, .int .i64 EG] 25) = wd at hd hrd ⊢
      refine wpAnyH_ready (rs := [5]) (by kernel_rfl) (by simp) ?_
      refine stepH rfl (fun K hK => ?_) AllReadyH.nil
      go_simp
      refine (HCO.out _ _ wd hrd).mono ?_
      rintro e we ⟨rfl, rfl⟩
      rw [HOR.out]
      go_wp2_with fail
      refine hK.out _ _ (hd) (fun _ => ?_)
      clear hK K
      (try simp only [Act.put, List.setIfInBounds_toArray, List.set_cons_zero, List.set_cons_succ])
      refine takeH (i := 6) (v := ?_) rfl (by kernel_rfl) (by kernel_rfl) (by kernel_rfl) (fun _ _ _ h => h) (Or.inl ⟨by rfl, ?_⟩) (by assumption) ?_
      rotate_left
      · (intro w hSw; (try dsimp only at hSw); go_simp; first | done | with_reducible rfl)
      (try simp only [Act.put, List.setIfInBounds_toArray, List.set_cons_zero, List.set_cons_succ])
      refine wpAnyH_done (by kernel_rfl) ?_ _
      have HX5 := Lib.hid (hx.out.below hd)
      have HP5 := Lib.hid (hp.out.below hd)
      have HR5 := Lib.hid (show RdrB wd (w.heap.size + 1) (.slice av nv cv') (u, er) from below_block hr.out hd)
      have HO5 := Lib.hid (ho.out.below hd)
      have HB5 := Lib.hid (bnext hb.out hd)
      clear hr hx hp ho hb ha hc hd hrd HVL HCO HOR
      by_cases hE : EE = 0
      · have HFIN := Lib.hid (hRF.out.2.1 hE)
        have HZZ := Lib.hid (hRF.out.1 hE)
        have hneb : (EE != 0) = false := by simp [hE]
        clear hRF hE
        obtain ⟨r0, r1, r2, _, _, _⟩ := HR5.out.cells
        obtain ⟨p0, p1, p2, _, _, _⟩ := HX5.out.cells
        obtain ⟨o0, o1, o2, g0, g1, g2⟩ := HP5.out.cells
        simp only at r1 r2
        have hsub : er = 0 ∧ EG = 0 := HZZ.out
        obtain ⟨he0, _⟩ := hsub
        subst he0
        go_wp2
        obtain ⟨w5, hw5⟩ : ∃ w5, w5 = wd := ⟨_, rfl⟩
        subst hw5
        refine wp_region_held_drew (S := fun w' => OP w' pb x1 x2 (.slice asv ys.length csv) ∧ RdrB w' (w.heap.size + 1) (.slice av nv cv') (u, 0)) (by kernel_rfl) ⟨HX5.out, HR5.out⟩ (fun hHeld => ?_)
        refine takeH (i := 0) (v := ?_) rfl (by kernel_rfl) (by kernel_rfl) (by kernel_rfl) (fun _ _ _ h => h) (Or.inl ⟨by rfl, ?_⟩) (by assumption) ?_
        rotate_left
        · (intro w hSw; (try dsimp only at hSw); obtain ⟨p0, p1, p2, _, _, _⟩ := hSw.1.cells; go_simp; first | done | with_reducible rfl)
        (try simp only [Act.put, List.setIfInBounds_toArray, List.set_cons_zero, List.set_cons_succ])
        refine takeH (i := 1) (v := ?_) rfl (by kernel_rfl) (by kernel_rfl) (by kernel_rfl) (fun _ _ _ h => h) (Or.inl ⟨by rfl, ?_⟩) (by assumption) ?_
        rotate_left
        · (intro w hSw; (try dsimp only at hSw); go_simp; first | done | with_reducible rfl)
        (try simp only [Act.put, List.setIfInBounds_toArray, List.set_cons_zero, List.set_cons_succ])
        refine takeH (i := 2) (v := ?_) rfl (by kernel_rfl) (by kernel_rfl) (by kernel_rfl) (fun _ _ _ h => h) (Or.inl ⟨by rfl, ?_⟩) (by assumption) ?_
        rotate_left
        · (intro w hSw; (try dsimp only at hSw); obtain ⟨r0, r1, r2, _, _, _⟩ := hSw.2.cells; simp only at r1; go_simp; first | done | with_reducible rfl)
        (try simp only [Act.put, List.setIfInBounds_toArray, List.set_cons_zero, List.set_cons_succ])
        have hs5 : OP w5.drew pb x1 x2 (.slice asv ys.length csv) ∧ RdrB w5.drew (w.heap.size + 1) (.slice av nv cv') (u, 0) := ⟨HX5.out, HR5.out⟩
        have HP6 := Lib.hid (show OP w5.drew w.heap.size 0 0 (.slice none 0 0) from HP5.out)
        have HO6 := Lib.hid (show OwnC w.heap.size w5.drew (.slice asv ys.length csv) ys from HO5.out)
        have HB6 := Lib.hid HB5.out.drew
        clear HX5 HP5 HR5 HO5 HB5 r0 r1 r2 p0 p1 p2 o0 o1 o2 g0 g1 g2 hHeld
        generalize w5.drew = w6 at HP6 HO6 HB6 hs5 ⊢
        obtain ⟨o0, o1, o2, g0, g1, g2⟩ := HP6.out.cells
        refine wpAnyH_ready (rs := [3]) (by kernel_rfl) (by simp) ?_
        refine stepH rfl (fun K hK => ?_) AllReadyH.nil
        go_simp
        refine hK.out _ _ ⟨hs5.1.only (only3 _ _ _) (by omega), hs5.2.only (only3 _ _ _) (by omega)⟩ (fun hHeld => ?_)
        clear hK K
        (try simp only [Act.put, List.setIfInBounds_toArray, List.set_cons_zero, List.set_cons_succ])
        refine takeH (i := 4) (v := ?_) rfl (by kernel_rfl) (by kernel_rfl) (by kernel_rfl) (fun _ _ _ h => h) (Or.inl ⟨by rfl, ?_⟩) (by assumption) ?_
        rotate_left
        · (intro w hSw; (try dsimp only at hSw); go_simp; first | done | with_reducible rfl)
        (try simp only [Act.put, List.setIfInBounds_toArray, List.set_cons_zero, List.set_cons_succ])
        refine takeH (i := 5) (v := ?_) rfl (by kernel_rfl) (by kernel_rfl) (by kernel_rfl) (fun _ _ _ h => h) (Or.inl ⟨by rfl, ?_⟩) (by assumption) ?_
        rotate_left
        · (intro w hSw; (try dsimp only at hSw); go_simp; first | done | with_reducible rfl)
        (try simp only [Act.put, List.setIfInBounds_toArray, List.set_cons_zero, List.set_cons_succ])
        refine wpAnyH_done (by kernel_rfl) ?_ _
        go_wp2
        refine dec_ret rfl rfl rfl (HP6.out.put3 x1 x2 _) rfl ⟨.slice asv ys.length csv, ?_, ?_, ?_⟩
        · rw [HFIN.out]
        · rw [HFIN.out]
          exact ownC_only HO6.out HP6.out (by decide) (only3 _ _ _)
        · exact seen HB6.out (Nat.le_refl _) (only3 _ _ _)
      · have HFIN := Lib.hid (hRF.out.2.2 hE)
        have hneb : (EE != 0) = true := by simpa using hE
        clear hRF hE
        obtain ⟨o0, o1, o2, g0, g1, g2⟩ := HP5.out.cells
        go_wp2
        refine dec_ret rfl rfl rfl (HP5.out.put3 0 0 (.slice none 0 0)) rfl ⟨.slice none 0 0, ?_, ?_, ?_⟩
        · rw [HFIN.out]; rfl
        · rw [HFIN.out]; exact OwnG.nil hlC _ _ _
        · exact seen HB5.out (Nat.le_refl _) (only3 _ _ _)

end Go.Proofs.Yteeegpojfbgkfaa.CO
