/-
  The call of proposal.Decode (its second make): it returns what the plain mathematics says of the bytes. Conditions: the slice reads as bytes.
  The call of the reference's DecodeProposal: it returns what the plain mathematics says of the bytes. Conditions: the slice reads as bytes.
  Encodings of configurations: the plain mathematics, the calls of config.Append, config.Decode and the reference's AppendConfig and DecodeConfig. Conditions: what comes in reads; what is encoded is valid.
  The calls of config.Decode and the reference's DecodeConfig. Conditions: the bytes read.
-/
import Derived.Deep.RegionHeld3
import Derived.Test.YtfdgoehfkfdgaaaJEn6
import Derived.Test.YtfdgoehfkfdgaaaKE
import Derived.Test.YtfdgoehfkfdgaaaKH
import Derived.Test.YtfdgoehfkfdgaaaKD
import Derived.Test.YtfdgoehfkfdgaaaKB
import Derived.Test.YtfdgoehfkfdgaaaKG
namespace Go.Proofs.Ytfdgoehfkfdgaaa.CO
open Go.RowKit
open JM (Chg St)

theorem errE : IsElem Try.prog 78 27 1 8 encI where
  ht := Try.underlying78
  info := by
    obtain ⟨i0, hi, hz0, hz1, hz2⟩ := info_parts (show (Try.prog.info? 27).map (fun i => (i.zero, i.size, i.bytes)) = some (some (.int .i64 0), 1, 8) by kernel_rfl)
    exact ⟨i0, _, hi, hz0, hz1, hz2, rfl⟩
  len := fun _ => rfl
  one := by intro x u hu; simp [encI] at hu; subst hu; rfl
  pos := by decide
  fits := by decide
theorem atEr {w : World} {a : Option Addr} {n c : Nat} {xs : List Int} (h : RdI w (.slice a n c) xs) (k : Nat) (x : Int) (hk : xs[k]? = some x) :
    ∃ b o, (∀ w0, (Instr.indexAt 78 (.slice a n c) (.int .i64 (k : Int))).run Try.prog w0 = .ok (.pointer (some ⟨b, o, none⟩)) w0) ∧ b < w.heap.size ∧ w.cell? ⟨b, o, none⟩ = some (.int .i64 x) := by
  obtain ⟨b, o, h1, h2, h3⟩ := h.at_ errE k x hk
  exact ⟨b, o, h1, h2, h3 0 _ rfl⟩

def orL : List Int → Int
  | [] => 0
  | x :: l => if x = 0 then orL l else x

set_option maxRecDepth 100000 in
set_option maxHeartbeats 1000000 in
theorem cOrE (v : Value) (xs : List Int) (w : World) (h : RdI w v xs) : Calls Try.prog 30 #[v] w fun e w' => e = .returned (.int .i64 (orL xs)) ∧ w = w' := by
  obtain ⟨ad, c, rfl, hc, hl⟩ := h.shape
  have H := Lib.hid h
  clear h
  obtain ⟨R, hR⟩ : ∃ R, R = orL xs := ⟨_, rfl⟩
  rw [← hR]
  have HR := Lib.hid (show R = orL (xs.drop 0) from hR)
  clear hR
  go_enter Try.func30, Try.ntmps30
  go_wp2
  go_loop [8] (fun i => ∃ k : Nat, k ≤ xs.length ∧ i = .int .i64 k ∧ Hid (R = orL (xs.drop k))) (fun i => xs.length - (intOf i).toNat)
  case atStart => exact ⟨0, Nat.zero_le _, rfl, HR⟩
  case round =>
    obtain ⟨k, hk, rfl, he⟩ := hrel
    clear HR
    by_cases hlt : k < xs.length
    · obtain ⟨b, o, hi, hb, c0⟩ := atEr H.out k xs[k] (List.getElem?_eq_getElem hlt)
      have hq : (k : Int) < (xs.length : Int) := by omega
      have hdx := Lib.hid (drop_get hlt)
      generalize xs[k] = x at c0 hdx
      by_cases h0 : x = 0
      · have e2 := Lib.hid (show R = orL (xs.drop (k + 1)) by rw [he.out, hdx.out, orL, if_pos h0])
        subst h0
        clear he hdx
        go_wp2
        go_round
        case rel => exact ⟨k + 1, by omega, by go_num, e2⟩
        case measure => simp [intOf]; omega
      · have e2 := Lib.hid (show R = x by rw [he.out, hdx.out, orL, if_neg h0])
        have hne : (x != 0) = true := bne_t h0
        clear he hdx h0
        go_wp2
        go_ret
        rw [e2.out]
        exact ⟨rfl, rfl⟩
    · have hq : ¬ ((k : Int) < (xs.length : Int)) := by omega
      have e2 := Lib.hid (show R = 0 by rw [he.out, List.drop_of_length_le (by omega)]; rfl)
      clear he
      go_wp2
      go_ret
      rw [e2.out]
      exact ⟨rfl, rfl⟩

theorem rd2e (w : World) (x y : Int) : RdI (w.alloc (.cells #[.int .i64 x, .int .i64 y] 27)) (.slice (some ⟨w.heap.size, 0, none⟩) 2 2) [x, y] := (ownG_fresh hlI 27 w [x, y] (by unfold maxLen; simp)).rd

/-- What Decode makes of what has been read. -/
def fin (a n : Int) (p : List Chg × St) : Int × Nat × Int × Int × List Chg :=
  if p.2.2 ≠ 0 then JM.bad p.2.2 else if JM.errP a n p.1 ≠ 0 then JM.bad (JM.errP a n p.1) else (0, p.2.1, a, n, p.1)
theorem many3 {xs : List Int} {s s1 s2 s3 : St} {x1 x2 x3 : Int} (h1 : JM.step xs s = (x1, s1)) (h2 : JM.step xs s1 = (x2, s2)) (h3 : JM.step xs s2 = (x3, s3)) : JM.many xs s 3 = ([x1, x2, x3], s3) := by
  simp [JM.many, h1, h2, h3]
theorem step_zero {xs : List Int} {s s' : St} {x : Int} (h : JM.step xs s = (x, s')) (hx : 0 < x) : s'.2 = 0 := by
  unfold JM.step at h
  split at h
  · cases h; omega
  split at h
  · cases h; omega
  · cases h; rfl
theorem decP_run {xs : List Int} {s1 s2 s3 : St} {x1 x2 x3 : Int} (h1 : JM.step xs (0, 0) = (x1, s1)) (h2 : JM.step xs s1 = (x2, s2)) (h3 : JM.step xs s2 = (x3, s3)) :
    JM.decP xs = fin x1 x2 (JM.chs xs (if 6 < x3 then (s3.1, 3) else s3) (if 6 < x3 then 0 else x3).toNat) := by
  have hm := many3 h1 h2 h3
  have hc : JM.cnt xs = x3 := by unfold JM.cnt; rw [hm]; rfl
  unfold JM.decP
  rw [hc, hm]
  by_cases h6 : 6 < x3
  · have hz := step_zero h3 (by omega)
    simp only [if_pos h6]
    rw [if_neg (by rw [hz]; simp)]
    rfl
  · simp only [if_neg h6]
    by_cases hs : s3.2 = 0
    · rw [if_neg (by rw [hs]; simp)]
      rfl
    · rw [if_pos hs]
      unfold fin
      rw [JM.chs_stop hs, if_pos hs]

theorem dec_ret {R : Ending → World → Prop} {a : Act} {w : World} {g : Nat} {x n : Int} {s : Value} {u er : Int} (hp : a.tmps.getD 2 undef = .pointer (some ⟨g, 0, none⟩)) (h3 : a.tmps.getD 3 undef = .int .i64 u) (h4 : a.tmps.getD 4 undef = .int .i64 er) (hg : OP w g x n s)
    (hd : a.defers = []) (hR : R (.returned (.tuple #[pv x n s, .int .i64 u, .int .i64 er])) w) : bodyPost Try.prog Try.f81 R .ret a w := by
  have := results_cell_tmp_tmp (P := Try.prog) (fn := Try.f81) rfl a.tmps w g 53 _ _ _ hp hg Try.underlying53 rfl (by kernel_rfl)
  rw [h3, h4] at this
  exact bodyPost_ret this hd hR

set_option maxRecDepth 100000 in
set_option maxHeartbeats 4000000 in
theorem cDecode (v : Value) (xs : List Int) (w : World) (h : Rd w v xs) :
    Calls Try.prog 81 #[v] w fun e w' => ∃ sv, e = .returned (.tuple #[pv (JM.decP xs).2.2.1 (JM.decP xs).2.2.2.1 sv, .int .i64 ((JM.decP xs).2.1 : Int), .int .i64 (JM.decP xs).1]) ∧ OwnC w.heap.size w' sv (JM.decP xs).2.2.2.2 ∧ Below w.heap.size w w' := by
  have hby := h.bytes
  obtain ⟨⟨x1, s1⟩, h1⟩ : ∃ p, JM.step xs (0, 0) = p := ⟨_, rfl⟩
  obtain ⟨⟨x2, s2⟩, h2⟩ : ∃ p, JM.step xs s1 = p := ⟨_, rfl⟩
  obtain ⟨⟨x3, s3⟩, h3⟩ : ∃ p, JM.step xs s2 = p := ⟨_, rfl⟩
  have u1 : s1.1 ≤ xs.length := by have := (JM.step_small xs (0, 0) hby (Nat.zero_le _)).2; rw [h1] at this; exact this
  have u2 : s2.1 ≤ xs.length := by have := (JM.step_small xs s1 hby u1).2; rw [h2] at this; exact this
  have u3 : s3.1 ≤ xs.length := by have := (JM.step_small xs s2 hby u2).2; rw [h3] at this; exact this
  have hx3 : JM.small x3 := by have := (JM.step_small xs s2 hby u2).1; rw [h3] at this; exact this
  rw [decP_run h1 h2 h3]
  obtain ⟨q, hq⟩ : ∃ q : St, q = if 6 < x3 then (s3.1, 3) else s3 := ⟨_, rfl⟩
  obtain ⟨C, hC⟩ : ∃ C : Nat, C = (if 6 < x3 then 0 else x3).toNat := ⟨_, rfl⟩
  have hCi : (if 6 < x3 then 0 else x3) = (C : Int) := by unfold JM.small at hx3; rw [hC]; split <;> omega
  have hC6 : C ≤ 6 := by rw [hC]; split <;> omega
  have huq : q.1 ≤ xs.length := by rw [hq]; split <;> exact u3
  rw [← hq, ← hC]
  obtain ⟨R, hR⟩ : ∃ R, R = fin x1 x2 (JM.chs xs q C) := ⟨_, rfl⟩
  rw [← hR]
  have HR := Lib.hid hR
  clear hR
  obtain ⟨ZP, hZP⟩ : ∃ Z, Z = Obj.cells #[.int .i64 0, .int .i64 0, .slice none 0 0] 53 := ⟨_, rfl⟩
  obtain ⟨ZR, hZR⟩ : ∃ Z, Z = Obj.cells #[v, .int .i64 0, .int .i64 0] 120 := ⟨_, rfl⟩
  have b0 := below_fresh w ZP
  have hP0 : OP (w.alloc ZP) w.heap.size 0 0 (.slice none 0 0) := by rw [hZP]; exact OP.fresh w 0 0 _
  have hs0 := World.size_alloc w ZP
  have b1 := below_fresh (w.alloc ZP) ZR
  have hR1 : RdrB ((w.alloc ZP).alloc ZR) (w.heap.size + 1) v (0, 0) := by rw [hZR, ← hs0]; exact heap_alloc_new (w.alloc ZP) _
  have hP1 := hP0.below b1
  have hB1 := bnext b0 b1
  generalize hw1 : (w.alloc ZP).alloc ZR = w1 at hB1 hR1 hP1
  have HW1 := Lib.hid hw1
  have HZP := Lib.hid hZP
  have HZR := Lib.hid hZR
  have HB1 := Lib.hid hB1
  have HR1 := Lib.hid hR1
  have HP1 := Lib.hid hP1
  have HV := Lib.hid h
  have N1 : Hid (∀ w', RdrB w' (w.heap.size + 1) v (0, 0) → Below w.heap.size w w' → Calls Try.prog 98 #[.pointer (some ⟨w.heap.size + 1, 0, none⟩)] w' fun e w'' => e = .returned (.int .i64 x1) ∧ RdrB w'' (w.heap.size + 1) v s1 ∧ Only (w.heap.size + 1) w' w'') := by
    intro w' hr hb
    have := rdNumber _ v xs (0, 0) w' hr (h.below hb) (Nat.zero_le _)
    rw [h1] at this; exact this
  have N2 : Hid (∀ w', RdrB w' (w.heap.size + 1) v s1 → Below w.heap.size w w' → Calls Try.prog 98 #[.pointer (some ⟨w.heap.size + 1, 0, none⟩)] w' fun e w'' => e = .returned (.int .i64 x2) ∧ RdrB w'' (w.heap.size + 1) v s2 ∧ Only (w.heap.size + 1) w' w'') := by
    intro w' hr hb
    have := rdNumber _ v xs s1 w' hr (h.below hb) u1
    rw [h2] at this; exact this
  have N3 : Hid (∀ w', RdrB w' (w.heap.size + 1) v s2 → Below w.heap.size w w' → Calls Try.prog 99 #[.pointer (some ⟨w.heap.size + 1, 0, none⟩), .int .i64 6] w' fun e w'' => e = .returned (.int .i64 (C : Int)) ∧ RdrB w'' (w.heap.size + 1) v q ∧ Only (w.heap.size + 1) w' w'') := by
    intro w' hr hb
    have := rdCount _ v xs s2 w' hr (h.below hb) u2
    rw [h3] at this
    simp only at this
    rw [hCi, ← hq] at this
    exact this
  have N4 : Hid (∀ (k : Nat) w', RdrB w' (w.heap.size + 1) v (JM.chs xs q k).2 → Below w.heap.size w w' → Calls Try.prog 100 #[.pointer (some ⟨w.heap.size + 1, 0, none⟩)] w' fun e w'' => e = .returned (cvT (JM.toChg (JM.many xs (JM.chs xs q k).2 7).1)) ∧ RdrB w'' (w.heap.size + 1) v (JM.chs xs q (k + 1)).2 ∧ Only (w.heap.size + 1) w' w'') := by
    intro k w' hr hb
    exact rdChange w _ v xs _ w' hr h hb (Nat.le_succ _) (JM.chs_used xs q hby huq k)
  have hlg : w.heap.size + 1 < w1.heap.size := (Array.getElem?_eq_some_iff.1 hR1).1
  have HLG := Lib.hid hlg
  clear h hby h1 h2 h3 u1 u2 u3 hx3 hq hC hCi huq hZP hZR b0 hP0 hs0 b1 hR1 hP1 hB1 hw1 hlg
  obtain ⟨av, nv, cv', rfl⟩ : ∃ a n c, v = .slice a n c := by obtain ⟨a, c, hv, _⟩ := HV.out.shape; exact ⟨_, _, _, hv⟩
  go_enter Try.func81, Try.ntmps81
  go_wp2_with fail
  rw [← HZP.out, ← HZR.out, HW1.out]
  refine (N1.out _ HR1.out HB1.out).mono ?_
  rintro e w2 ⟨rfl, hr, ho⟩
  have HB2 := Lib.hid (seen HB1.out (Nat.le_succ _) ho)
  have HP2 := Lib.hid (HP1.out.only ho (by omega))
  have HL2 := Lib.hid (Nat.lt_of_lt_of_le HLG.out ho.size)
  have HR2 := Lib.hid hr
  clear hr ho N1 HR1 HP1 HB1 HLG HW1 HZR
  go_wp2_with fail
  refine (N2.out _ HR2.out HB2.out).mono ?_
  rintro e w3 ⟨rfl, hr, ho⟩
  have HB3 := Lib.hid (seen HB2.out (Nat.le_succ _) ho)
  have HP3 := Lib.hid (HP2.out.only ho (by omega))
  have HL3 := Lib.hid (Nat.lt_of_lt_of_le HL2.out ho.size)
  have HR3 := Lib.hid hr
  clear hr ho N2 HR2 HP2 HB2 HL2
  go_wp2_with fail
  have b4 := below_fresh w3 (.cells #[.int .i64 x1, .int .i64 x2, .slice none 0 0] 53)
  have hX4 := OP.fresh w3 x1 x2 (.slice none 0 0)
  have hP4 := HP3.out.below b4
  have hR4 : RdrB (w3.alloc (.cells #[.int .i64 x1, .int .i64 x2, .slice none 0 0] 53)) (w.heap.size + 1) _ s2 := below_block HR3.out b4
  have hB4 := bnext HB3.out b4
  generalize w3.alloc (.cells #[.int .i64 x1, .int .i64 x2, .slice none 0 0] 53) = w4 at b4 hX4 hP4 hR4 hB4 ⊢
  obtain ⟨pb, hpb⟩ : ∃ pb, pb = w3.heap.size := ⟨_, rfl⟩
  rw [← hpb] at hX4 ⊢
  have HPB := Lib.hid (show w.heap.size + 1 < pb by rw [hpb]; exact HL3.out)
  have hne : pb ≠ w.heap.size + 1 := Nat.ne_of_gt HPB.out
  refine (N3.out _ hR4 hB4).mono ?_
  rintro e w5 ⟨rfl, hr, ho⟩
  have HX5 := Lib.hid (hX4.only ho hne)
  have HP5 := Lib.hid (hP4.only ho (by omega))
  have HR5 := Lib.hid hr
  have HB5 := Lib.hid (seen hB4 (Nat.le_succ _) ho)
  clear hr ho N3 HR3 HP3 HB3 HL3 b4 hX4 hP4 hR4 hB4 hne hpb
  go_wp2
  go_loopw [14] (fun i wr => ∃ (k : Nat) (sv : Value), k ≤ C ∧ i = .int .i64 k ∧ Hid (RdrB wr (w.heap.size + 1) (.slice av nv cv') (JM.chs xs q k).2) ∧ Hid (OP wr pb x1 x2 sv) ∧ Hid (OP wr w.heap.size 0 0 (.slice none 0 0)) ∧ Hid (OwnC w.heap.size wr sv (JM.chs xs q k).1) ∧ Hid (Below w.heap.size w wr)) (fun i _ => C - (intOf i).toNat)
  case atStart => exact ⟨0, _, Nat.zero_le _, rfl, HR5.out, HX5.out, HP5.out, OwnG.nil hlC _ _ _, HB5.out⟩
  case round =>
    obtain ⟨k, sv, hk, rfl, hr, hx, hp, ho, hb⟩ := hrel
    clear HR5 HX5 HP5 HB5
    by_cases hlt : k < C
    · have hq2 : (k : Int) < (C : Int) := by omega
      obtain ⟨⟨k', s', t', v', a', b', c'⟩, hy⟩ : ∃ y, JM.toChg (JM.many xs (JM.chs xs q k).2 7).1 = y := ⟨_, rfl⟩
      have hyl := JM.chs_length xs q k
      have hsn : (JM.chs xs q (k + 1)).1 = (JM.chs xs q k).1 ++ [(k', s', t', v', a', b', c')] := by
        show (JM.chs xs q k).1 ++ [JM.toChg (JM.many xs (JM.chs xs q k).2 7).1] = _
        rw [hy]
      have hcall := N4.out k
      rw [hy] at hcall
      have HC : Hid (∀ w', RdrB w' (w.heap.size + 1) (.slice av nv cv') (JM.chs xs q k).2 → Below w.heap.size w w' → Calls Try.prog 100 #[.pointer (some ⟨w.heap.size + 1, 0, none⟩)] w' fun e w'' => e = .returned (cv k' s' t' v' a' b' c') ∧ RdrB w'' (w.heap.size + 1) (.slice av nv cv') (JM.chs xs q (k + 1)).2 ∧ Only (w.heap.size + 1) w' w'') := hcall
      have HSN := Lib.hid hsn
      clear hy hcall hsn
      generalize (JM.chs xs q k).1 = ys at ho hyl HSN
      obtain ⟨asv, csv, rfl, hcsv, _⟩ := ho.out.rd.shape
      have hyb : ys.length ≤ 1073741824 := by omega
      rw [hyl] at hx ho
      have HYB := Lib.hid hyb
      have HYL := Lib.hid hyl
      have c0 : wr.drew.cell? ⟨pb, 2, none⟩ = some (.slice asv k csv) := hx.out.cells.2.2.1
      have hpn : pb ≠ w.heap.size + 1 := Nat.ne_of_gt HPB.out
      have HPN := Lib.hid hpn
      clear hyb hyl hpn
      have A5 : Hid (∀ w5, Only (w.heap.size + 1) wr.drew w5 → OP w5 pb x1 x2 (.slice asv k csv) ∧ OP w5 w.heap.size 0 0 (.slice none 0 0) ∧ OwnC w.heap.size w5 (.slice asv k csv) ys ∧ Below w.heap.size w w5) := by
        intro w5 ho5
        have hx' : OP wr.drew pb x1 x2 (.slice asv k csv) := hx.out
        have hp' : OP wr.drew w.heap.size 0 0 (.slice none 0 0) := hp.out
        have ho' : OwnC w.heap.size wr.drew (.slice asv k csv) ys := ho.out
        have hr' : wr.drew.heap[w.heap.size + 1]? = some (.cells #[.slice av nv cv', .int .i64 ((JM.chs xs q k).2.1 : Int), .int .i64 (JM.chs xs q k).2.2] 120 (0, 0)) := hr.out
        have hb' : Below w.heap.size w wr.drew := hb.out.drew
        exact ⟨hx'.only ho5 HPN.out, hp'.only ho5 (Nat.ne_of_lt (Nat.lt_succ_self _)), ownC_only ho' hr' (by decide) ho5, seen hb' (Nat.le_succ _) ho5⟩
      go_wp2
      go_region_law (first
        | (go_simp; go_at_call 100; refine (HC.out wr.drew hr.out hb.out.drew).mono ?_; rintro e w5 ⟨rfl, hr5, ho5⟩; obtain ⟨hX5, hP5, hO5, hB5⟩ := A5.out w5 ho5; have HR5 := Lib.hid hr5; have HX5 := Lib.hid hX5; have HP5 := Lib.hid hP5; have HO5 := Lib.hid hO5; have HB5 := Lib.hid hB5; have hsz5 := hB5.size; have c5 := hX5.cells.2.2.1; have c6 := below_cell (below_fresh w5 (.cells #[.int .i64 k', .int .i64 s', .int .i64 t', .int .i64 v', .int .i64 a', .int .i64 b', .int .i64 c'] 50)) c5; clear hr5 ho5 hX5 hP5 hO5 hB5)
        | (refine step_appG1 chgE (k', s', t', v', a', b', c') rfl _ _ rfl rfl HO5.out rfl HYB.out hsz5 ?_; intro v6 w6 ho6 hb6 hk6; obtain ⟨av6, cv6, rfl, _, _⟩ := ho6.rd.shape; have x6 := (OP.keep (e := 50) HX5.out (by decide) hk6).cells; have x60 := x6.2.2.1; have x6f := x6.2.2.2.2.2))
      all_goals
        have hpb := HPB.out
        have hx6 : OP w6 pb x1 x2 (.slice asv k csv) := OP.keep (e := 50) HX5.out (by decide) hk6
        have hon : Only pb w6 (w6.setCell ⟨pb, 2, none⟩ (.slice av6 (ys.length + 1) cv6)) := Only.set 2 _
        have el : (ys ++ [(k', s', t', v', a', b', c')]).length = ys.length + 1 := by simp
        rw [el] at ho6
        have HX6 := Lib.hid (hx6.put (.slice av6 (ys.length + 1) cv6))
        have HP6 := Lib.hid ((OP.keep (e := 50) HP5.out (by decide) hk6).only hon (by omega))
        have HR6 := Lib.hid ((RdrB.keep (e := 50) HR5.out (by decide) hk6).only hon (by omega))
        have HO6 := Lib.hid (show OwnC w.heap.size (w6.setCell ⟨pb, 2, none⟩ (.slice av6 (ys.length + 1) cv6)) (.slice av6 (ys.length + 1) cv6) (JM.chs xs q (k + 1)).1 by rw [HSN.out]; exact ownC_only ho6 hx6 (by decide) hon)
        have HB6 := Lib.hid (seen (HB5.out.trans hb6) (by omega) hon)
        clear hx6 hon el ho6 hb6 hk6 x6 x60 x6f c0 c5 c6 hr hx hp ho hb HR5 HX5 HP5 HO5 HB5 hsz5 A5 HC hpb
        generalize w6.setCell ⟨pb, 2, none⟩ (.slice av6 (ys.length + 1) cv6) = w7 at HX6 HP6 HR6 HO6 HB6 ⊢
        go_wp2
        go_roundw
        case rel => exact ⟨k + 1, _, by omega, by go_num, HR6, HX6, HP6, HO6, HB6⟩
        case measure => simp [intOf]; omega
    · have hq2 : ¬ (k : Int) < (C : Int) := by omega
      obtain rfl : k = C := by omega
      have hyl := JM.chs_length xs q k
      have hfin := HR.out
      clear HR N4
      generalize JM.chs xs q k = p at hr ho hyl hfin
      obtain ⟨ys, u, er⟩ := p
      simp only at hyl
      obtain ⟨asv, csv, rfl, hcsv, _⟩ := ho.out.rd.shape
      obtain ⟨r0, r1, r2, _, _, _⟩ := hr.out.cells
      simp only at r1 r2
      obtain ⟨p0, p1, p2, _, _, _⟩ := hx.out.cells
      obtain ⟨o0, o1, o2, g0, g1, g2⟩ := hp.out.cells
      have hpb := HPB.out
      clear hyl
      clear r0 r1 r2 p0 p1 p2 o0 o1 o2 g0 g1 g2
      have HVL := Lib.hid (fun w' (hb : Below wr.heap.size wr w') => cValidate x1 x2 (.slice asv ys.length csv) ys w' (ho.out.below hb).rd)
      obtain ⟨EG, hEG⟩ : ∃ e, e = JM.errP x1 x2 ys := ⟨_, rfl⟩
      rw [← hEG] at HVL
      obtain ⟨EE, hEE⟩ : ∃ e, e = orL [er, EG] := ⟨_, rfl⟩
      have HOR := Lib.hid hEE.symm
      have HCO := Lib.hid (fun z l w (h : RdI w z l) => cOrE z l w h)
      have hRF : Hid ((EE = 0 → er = 0 ∧ EG = 0) ∧ (EE = 0 → R = (0, u, x1, x2, ys)) ∧ (¬ EE = 0 → R = JM.bad EE)) := Lib.hid (by
        rw [hfin, hEE]
        unfold fin orL orL orL
        rw [← hEG]
        by_cases h1 : er = 0
        · by_cases h2 : EG = 0
          · simp [h1, h2]
          · simp [h1, h2]
        · simp [h1])
      clear hfin hEG hEE
      go_wp2
      refine wp_region_held_drew (S := fun w' => Below wr.heap.size wr w') (by kernel_rfl) ((Below.refl _ _).drew) (fun ha => ?_)
      replace ha : Below wr.heap.size wr wr.drew := (Below.refl _ _).drew
      generalize wr.drew = wa at ha ⊢
      refine takeH (i := 0) (v := ?_) rfl (by kernel_rfl) (by kernel_rfl) (by kernel_rfl) (fun _ _ _ h => h) (Or.inl ⟨by rfl, ?_⟩) (by assumption) ?_
      rotate_left
      · (intro w hSw; (try dsimp only at hSw); go_simp; first | done | with_reducible rfl)
      (try simp only [Act.put, List.setIfInBounds_toArray, List.set_cons_zero, List.set_cons_succ])
      refine takeH (i := 1) (v := ?_) rfl (by kernel_rfl) (by kernel_rfl) (by kernel_rfl) (fun _ _ _ h => h) (Or.inl ⟨by rfl, ?_⟩) (by assumption) ?_
      rotate_left
      · (intro w hSw; (try dsimp only at hSw); obtain ⟨r0, r1, r2, _, _, _⟩ := RdrB.cells (show RdrB w _ _ _ from below_block hr.out hSw) ; simp only at r2; go_simp; first | done | with_reducible rfl)
      (try simp only [Act.put, List.setIfInBounds_toArray, List.set_cons_zero, List.set_cons_succ])
      refine takeH (i := 2) (v := ?_) rfl (by kernel_rfl) (by kernel_rfl) (by kernel_rfl) (fun _ _ _ h => h) (Or.inl ⟨by rfl, ?_⟩) (by assumption) ?_
      rotate_left
      · (intro w hSw; (try dsimp only at hSw); obtain ⟨p0, p1, p2, _, _, _⟩ := (hx.out.below hSw).cells; go_simp; first | done | with_reducible rfl)
      (try simp only [Act.put, List.setIfInBounds_toArray, List.set_cons_zero, List.set_cons_succ])
      refine wpAnyH_ready (rs := [3]) (by kernel_rfl) (by simp) ?_
      refine stepH rfl (fun K hK => ?_) AllReadyH.nil
      go_simp
      refine (HVL.out wa ha).mono ?_
      rintro e wb ⟨rfl, hq⟩
      have hc := bnext ha hq
      go_wp2_with fail
      refine hK.out _ _ (hc) (fun _ => ?_)
      clear hK K
      (try simp only [Act.put, List.setIfInBounds_toArray, List.set_cons_zero, List.set_cons_succ])
      have hrd := rd2e wb er EG
      refine wpAnyH_ready (rs := [4]) (by kernel_rfl) (by simp) ?_
      refine stepH rfl (fun K hK => ?_) AllReadyH.nil
      go_simp
      have hd := bnext hc (below_fresh wb (.cells #[.int .i64 er, .int .i64 EG] 27))
      refine hK.out _ _ (hd) (fun _ => ?_)
      clear hK K
      (try simp only [Act.put, List.setIfInBounds_toArray, List.set_cons_zero, List.set_cons_succ])
      generalize wb.alloc (.cells #[.int .i64 er, .int .i64 EG] 27) = wd at hd hrd ⊢
      refine wpAnyH_ready (rs := [5]) (by kernel_rfl) (by simp) ?_
      refine stepH rfl (fun K hK => ?_) AllReadyH.nil
      go_simp
      refine (HCO.out _ _ wd hrd).mono ?_
      rintro e we ⟨rfl, rfl⟩
      rw [HOR.out]
      go_wp2_with fail
      refine hK.out _ _ (hd) (fun _ => ?_)
      clear hK K
      (try simp only [Act.put, List.setIfInBounds_toArray, List.set_cons_zero, List.set_cons_succ])
      refine takeH (i := 6) (v := ?_) rfl (by kernel_rfl) (by kernel_rfl) (by kernel_rfl) (fun _ _ _ h => h) (Or.inl ⟨by rfl, ?_⟩) (by assumption) ?_
      rotate_left
      · (intro w hSw; (try dsimp only at hSw); go_simp; first | done | with_reducible rfl)
      (try simp only [Act.put, List.setIfInBounds_toArray, List.set_cons_zero, List.set_cons_succ])
      refine wpAnyH_done (by kernel_rfl) ?_ _
      have HX5 := Lib.hid (hx.out.below hd)
      have HP5 := Lib.hid (hp.out.below hd)
      have HR5 := Lib.hid (show RdrB wd (w.heap.size + 1) (.slice av nv cv') (u, er) from below_block hr.out hd)
      have HO5 := Lib.hid (ho.out.below hd)
      have HB5 := Lib.hid (bnext hb.out hd)
      clear hr hx hp ho hb ha hc hd hrd HVL HCO HOR
      by_cases hE : EE = 0
      · have HFIN := Lib.hid (hRF.out.2.1 hE)
        have HZZ := Lib.hid (hRF.out.1 hE)
        have hneb : (EE != 0) = false := by simp [hE]
        clear hRF hE
        obtain ⟨r0, r1, r2, _, _, _⟩ := HR5.out.cells
        obtain ⟨p0, p1, p2, _, _, _⟩ := HX5.out.cells
        obtain ⟨o0, o1, o2, g0, g1, g2⟩ := HP5.out.cells
        simp only at r1 r2
        have hsub : er = 0 ∧ EG = 0 := HZZ.out
        obtain ⟨he0, _⟩ := hsub
        subst he0
        go_wp2
        obtain ⟨w5, hw5⟩ : ∃ w5, w5 = wd := ⟨_, rfl⟩
        subst hw5
        refine wp_region_held_drew (S := fun w' => OP w' pb x1 x2 (.slice asv ys.length csv) ∧ RdrB w' (w.heap.size + 1) (.slice av nv cv') (u, 0)) (by kernel_rfl) ⟨HX5.out, HR5.out⟩ (fun hHeld => ?_)
        refine takeH (i := 0) (v := ?_) rfl (by kernel_rfl) (by kernel_rfl) (by kernel_rfl) (fun _ _ _ h => h) (Or.inl ⟨by rfl, ?_⟩) (by assumption) ?_
        rotate_left
        · (intro w hSw; (try dsimp only at hSw); obtain ⟨p0, p1, p2, _, _, _⟩ := hSw.1.cells; go_simp; first | done | with_reducible rfl)
        (try simp only [Act.put, List.setIfInBounds_toArray, List.set_cons_zero, List.set_cons_succ])
        refine takeH (i := 1) (v := ?_) rfl (by kernel_rfl) (by kernel_rfl) (by kernel_rfl) (fun _ _ _ h => h) (Or.inl ⟨by rfl, ?_⟩) (by assumption) ?_
        rotate_left
        · (intro w hSw; (try dsimp only at hSw); go_simp; first | done | with_reducible rfl)
        (try simp only [Act.put, List.setIfInBounds_toArray, List.set_cons_zero, List.set_cons_succ])
        refine takeH (i := 2) (v := ?_) rfl (by kernel_rfl) (by kernel_rfl) (by kernel_rfl) (fun _ _ _ h => h) (Or.inl ⟨by rfl, ?_⟩) (by assumption) ?_
        rotate_left
        · (intro w hSw; (try dsimp only at hSw); obtain ⟨r0, r1, r2, _, _, _⟩ := hSw.2.cells; simp only at r1; go_simp; first | done | with_reducible rfl)
        (try simp only [Act.put, List.setIfInBounds_toArray, List.set_cons_zero, List.set_cons_succ])
        have hs5 : OP w5.drew pb x1 x2 (.slice asv ys.length csv) ∧ RdrB w5.drew (w.heap.size + 1) (.slice av nv cv') (u, 0) := ⟨HX5.out, HR5.out⟩
        have HP6 := Lib.hid (show OP w5.drew w.heap.size 0 0 (.slice none 0 0) from HP5.out)
        have HO6 := Lib.hid (show OwnC w.heap.size w5.drew (.slice asv ys.length csv) ys from HO5.out)
        have HB6 := Lib.hid HB5.out.drew
        clear HX5 HP5 HR5 HO5 HB5 r0 r1 r2 p0 p1 p2 o0 o1 o2 g0 g1 g2 hHeld
        generalize w5.drew = w6 at HP6 HO6 HB6 hs5 ⊢
        obtain ⟨o0, o1, o2, g0, g1, g2⟩ := HP6.out.cells
        refine wpAnyH_ready (rs := [3]) (by kernel_rfl) (by simp) ?_
        refine stepH rfl (fun K hK => ?_) AllReadyH.nil
        go_simp
        refine hK.out _ _ ⟨hs5.1.only (only3 _ _ _) (by omega), hs5.2.only (only3 _ _ _) (by omega)⟩ (fun hHeld => ?_)
        clear hK K
        (try simp only [Act.put, List.setIfInBounds_toArray, List.set_cons_zero, List.set_cons_succ])
        refine takeH (i := 4) (v := ?_) rfl (by kernel_rfl) (by kernel_rfl) (by kernel_rfl) (fun _ _ _ h => h) (Or.inl ⟨by rfl, ?_⟩) (by assumption) ?_
        rotate_left
        · (intro w hSw; (try dsimp only at hSw); go_simp; first | done | with_reducible rfl)
        (try simp only [Act.put, List.setIfInBounds_toArray, List.set_cons_zero, List.set_cons_succ])
        refine takeH (i := 5) (v := ?_) rfl (by kernel_rfl) (by kernel_rfl) (by kernel_rfl) (fun _ _ _ h => h) (Or.inl ⟨by rfl, ?_⟩) (by assumption) ?_
        rotate_left
        · (intro w hSw; (try dsimp only at hSw); go_simp; first | done | with_reducible rfl)
        (try simp only [Act.put, List.setIfInBounds_toArray, List.set_cons_zero, List.set_cons_succ])
        refine wpAnyH_done (by kernel_rfl) ?_ _
        go_wp2
        refine dec_ret rfl rfl rfl (HP6.out.put3 x1 x2 _) rfl ⟨.slice asv ys.length csv, ?_, ?_, ?_⟩
        · rw [HFIN.out]
        · rw [HFIN.out]
          exact ownC_only HO6.out HP6.out (by decide) (only3 _ _ _)
        · exact seen HB6.out (Nat.le_refl _) (only3 _ _ _)
      · have HFIN := Lib.hid (hRF.out.2.2 hE)
        have hneb : (EE != 0) = true := by simpa using hE
        clear hRF hE
        obtain ⟨o0, o1, o2, g0, g1, g2⟩ := HP5.out.cells
        go_wp2
        refine dec_ret rfl rfl rfl (HP5.out.put3 0 0 (.slice none 0 0)) rfl ⟨.slice none 0 0, ?_, ?_, ?_⟩
        · rw [HFIN.out]; rfl
        · rw [HFIN.out]; exact OwnG.nil hlC _ _ _
        · exact seen HB5.out (Nat.le_refl _) (only3 _ _ _)

end Go.Proofs.Ytfdgoehfkfdgaaa.CO

namespace Go.Proofs.Ytfdgoehfkfdgaaa.CO
open Go.RowKit
open JM (Chg St)

theorem rdec_ret {R : Ending → World → Prop} {a : Act} {w : World} {g : Nat} {x n : Int} {s : Value} {u er : Int} (hp : a.tmps.getD 2 undef = .pointer (some ⟨g, 0, none⟩)) (h3 : a.tmps.getD 3 undef = .int .i64 u) (h4 : a.tmps.getD 4 undef = .int .i64 er) (hg : OP w g x n s)
    (hd : a.defers = []) (hR : R (.returned (.tuple #[pv x n s, .int .i64 u, .int .i64 er])) w) : bodyPost Try.prog Try.f71 R .ret a w := by
  have := results_cell_tmp_tmp (P := Try.prog) (fn := Try.f71) rfl a.tmps w g 53 _ _ _ hp hg Try.underlying53 rfl (by kernel_rfl)
  rw [h3, h4] at this
  exact bodyPost_ret this hd hR
theorem atI_cell {w : World} {a : Option Addr} {n c : Nat} {xs : List Int} {b o : Nat} (h : RdI w (.slice a n c) xs) (k : Nat) (x : Int) (hk : xs[k]? = some x)
    (hi : ∀ w0, (Instr.indexAt 36 (.slice a n c) (.int .i64 (k : Int))).run Try.prog w0 = .ok (.pointer (some ⟨b, o, none⟩)) w0) : w.cell? ⟨b, o, none⟩ = some (.int .i64 x) := by
  obtain ⟨b', o', hi', _, hc⟩ := atI h k x hk
  have h1 := hi w
  rw [hi' w] at h1
  injection h1 with h1 _
  injection h1 with h1
  injection h1 with h1
  injection h1 with h1 h2 _
  subst h1 h2
  exact hc

theorem list7 {l : List Int} (h : l.length = 7) : ∃ a b c d e f g, l = [a, b, c, d, e, f, g] := by
  match l, h with
  | [a, b, c, d, e, f, g], _ => exact ⟨a, b, c, d, e, f, g, rfl⟩
theorem fin_bad {a n : Int} {p : List Chg × St} (h : p.2.2 ≠ 0) : fin a n p = JM.bad p.2.2 := if_pos h

set_option maxRecDepth 100000 in
set_option maxHeartbeats 4000000 in
theorem rDecode (v : Value) (xs : List Int) (w : World) (h : Rd w v xs) :
    Calls Try.prog 71 #[v] w fun e w' => ∃ sv, e = .returned (.tuple #[pv (JM.decP xs).2.2.1 (JM.decP xs).2.2.2.1 sv, .int .i64 ((JM.decP xs).2.1 : Int), .int .i64 (JM.decP xs).1]) ∧ OwnC w.heap.size w' sv (JM.decP xs).2.2.2.2 ∧ Below w.heap.size w w' := by
  have hby := h.bytes
  obtain ⟨⟨x1, s1⟩, h1⟩ : ∃ p, JM.step xs (0, 0) = p := ⟨_, rfl⟩
  obtain ⟨⟨x2, s2⟩, h2⟩ : ∃ p, JM.step xs s1 = p := ⟨_, rfl⟩
  obtain ⟨⟨x3, zu3, e3⟩, h3⟩ : ∃ p, JM.step xs s2 = p := ⟨_, rfl⟩
  have u1 : s1.1 ≤ xs.length := by have := (JM.step_small xs (0, 0) hby (Nat.zero_le _)).2; rw [h1] at this; exact this
  have u2 : s2.1 ≤ xs.length := by have := (JM.step_small xs s1 hby u1).2; rw [h2] at this; exact this
  have zu3' : zu3 ≤ xs.length := by have := (JM.step_small xs s2 hby u2).2; rw [h3] at this; exact this
  have hx3 : JM.small x3 := by have := (JM.step_small xs s2 hby u2).1; rw [h3] at this; exact this
  have hm3 := many3 h1 h2 h3
  obtain ⟨C, rfl⟩ : ∃ C : Nat, x3 = (C : Int) := by unfold JM.small at hx3; exact ⟨x3.toNat, by omega⟩
  have hz3 := fun hC : 0 < (C : Int) => step_zero h3 hC
  have hrun := decP_run h1 h2 h3
  have hCs : (C : Int) < 2147483648 := hx3.2
  obtain ⟨R, hR⟩ : ∃ R, R = JM.decP xs := ⟨_, rfl⟩
  rw [← hR] at hrun ⊢
  obtain ⟨ZP, hZP⟩ : ∃ Z, Z = Obj.cells #[.int .i64 0, .int .i64 0, .slice none 0 0] 53 := ⟨_, rfl⟩
  have b0 := below_fresh w ZP
  have hP0 : OP (w.alloc ZP) w.heap.size 0 0 (.slice none 0 0) := by rw [hZP]; exact OP.fresh w 0 0 _
  obtain ⟨w0, hw0⟩ : ∃ w0, w.alloc ZP = w0 := ⟨_, rfl⟩
  rw [hw0] at b0 hP0
  have hrd := rRead v xs 3 w0 (h.below b0) (by decide)
  rw [hm3] at hrd
  simp only at hrd
  have HRD : Hid (Calls Try.prog 89 #[v, .int .i64 3] w0 _) := hrd
  have HW0 := Lib.hid hw0
  have HZP := Lib.hid hZP
  have HB0 := Lib.hid b0
  have HP0 := Lib.hid hP0
  have HV := Lib.hid h
  have HRUN := Lib.hid hrun
  have HBY := Lib.hid hby
  obtain ⟨av, nv, cv', rfl⟩ : ∃ a n c, v = .slice a n c := by obtain ⟨a, c, hv, _⟩ := h.shape; exact ⟨_, _, _, hv⟩
  clear h hby h1 h2 h3 u1 u2 hx3 hm3 hR hZP b0 hP0 hw0 hrd hrun
  go_enter Try.func71, Try.ntmps71
  go_wp2_with fail
  rw [← HZP.out, HW0.out]
  refine HRD.out.mono ?_
  rintro e w2 (⟨hne, rfl, hb2⟩ | ⟨rfl, hv, rfl, hoh, hb2⟩)
  · have HB2 := Lib.hid (bnext HB0.out hb2)
    have HP2 := Lib.hid (HP0.out.below hb2)
    have hC6 : ¬ 6 < (C : Int) := fun hC => hne (hz3 (by omega))
    have HFIN := Lib.hid (show R = JM.bad e3 by
      rw [HRUN.out, if_neg hC6, if_neg hC6, fin_bad (by rw [JM.chs_stop hne]; exact hne), JM.chs_stop hne])
    have hne' : (e3 != 0) = true := bne_t hne
    obtain ⟨o0, o1, o2, g0, g1, g2⟩ := HP2.out.cells
    clear hb2 hne hz3 hC6 HRUN HRD HW0 HZP HB0 HP0
    go_wp2
    refine rdec_ret rfl rfl rfl (HP2.out.put3 0 0 (.slice none 0 0)) rfl ⟨.slice none 0 0, ?_, ?_, ?_⟩
    · rw [HFIN.out]; rfl
    · rw [HFIN.out]; exact OwnG.nil hlC _ _ _
    · exact seen HB2.out (Nat.le_refl _) (only3 _ _ _)
  · have HB2 := Lib.hid (bnext HB0.out hb2)
    have HP2 := Lib.hid (HP0.out.below hb2)
    have HOH2 := Lib.hid (hoh.mono HB0.out.size)
    obtain ⟨hda, hdc, rfl⟩ : ∃ a c, hv = .slice a 3 c := by obtain ⟨a, c, h, _⟩ := hoh.rd.shape; exact ⟨a, c, h⟩
    obtain ⟨bx2, ox2, hi2, _, hc2⟩ := atI HOH2.out.rd 2 _ rfl
    have hi2 : ∀ w0, (Instr.indexAt 36 (.slice hda 3 hdc) (.int .i64 2)).run Try.prog w0 = .ok (.pointer (some ⟨bx2, ox2, none⟩)) w0 := hi2
    by_cases hC6 : 6 < (C : Int)
    · have HFIN := Lib.hid (show R = JM.bad 3 by
        rw [HRUN.out, if_pos hC6, if_pos hC6]; rfl)
      obtain ⟨o0, o1, o2, g0, g1, g2⟩ := HP2.out.cells
      clear hb2 hz3 HRUN HRD HW0 HZP HB0 HP0 hoh HOH2
      go_wp2
      refine rdec_ret rfl rfl rfl (HP2.out.put3 0 0 (.slice none 0 0)) rfl ⟨.slice none 0 0, ?_, ?_, ?_⟩
      · rw [HFIN.out]; rfl
      · rw [HFIN.out]; exact OwnG.nil hlC _ _ _
      · exact seen HB2.out (Nat.le_refl _) (only3 _ _ _)
    · have HFIN := Lib.hid (show R = fin x1 x2 (JM.chs xs (zu3, 0) C) by
        rw [HRUN.out, if_neg hC6, if_neg hC6, Int.toNat_natCast])
      have hC6' : decide (6 < (C : Int)) = false := decide_eq_false hC6
      have HC6 := Lib.hid (show C ≤ 6 by omega)
      obtain ⟨bx0, ox0, hi0, _, hc0⟩ := atI HOH2.out.rd 0 _ rfl
      have hi0 : ∀ w0, (Instr.indexAt 36 (.slice hda 3 hdc) (.int .i64 0)).run Try.prog w0 = .ok (.pointer (some ⟨bx0, ox0, none⟩)) w0 := hi0
      obtain ⟨bx1, ox1, hi1, _, hc1⟩ := atI HOH2.out.rd 1 _ rfl
      have hi1 : ∀ w0, (Instr.indexAt 36 (.slice hda 3 hdc) (.int .i64 1)).run Try.prog w0 = .ok (.pointer (some ⟨bx1, ox1, none⟩)) w0 := hi1
      have HU3 := Lib.hid zu3'
      clear hb2 hz3 HRUN HRD HW0 HZP HB0 HP0 hoh hC6 hCs zu3'
      go_wp2
      refine wp_region_held_drew (S := fun w' => Below w2.heap.size w2 w') (by kernel_rfl) ((Below.refl _ _).drew) (fun ha => ?_)
      replace ha : Below w2.heap.size w2 w2.drew := (Below.refl _ _).drew
      generalize w2.drew = wa at ha ⊢
      refine takeH (i := 0) (v := ?_) rfl (by kernel_rfl) (by kernel_rfl) (by kernel_rfl) (fun _ _ _ h => h) (Or.inl ⟨by rfl, ?_⟩) (by assumption) ?_
      rotate_left
      · (intro w hSw; (try dsimp only at hSw); go_simp; first | done | with_reducible rfl)
      (try simp only [Act.put, List.setIfInBounds_toArray, List.set_cons_zero, List.set_cons_succ])
      refine takeH (i := 1) (v := ?_) rfl (by kernel_rfl) (by kernel_rfl) (by kernel_rfl) (fun _ _ _ h => h) (Or.inl ⟨by rfl, ?_⟩) (by assumption) ?_
      rotate_left
      · (intro w hSw; (try dsimp only at hSw); have hcx := hi0; go_simp; first | done | with_reducible rfl)
      (try simp only [Act.put, List.setIfInBounds_toArray, List.set_cons_zero, List.set_cons_succ])
      refine takeH (i := 2) (v := ?_) rfl (by kernel_rfl) (by kernel_rfl) (by kernel_rfl) (fun _ _ _ h => h) (Or.inl ⟨by rfl, ?_⟩) (by assumption) ?_
      rotate_left
      · (intro w hSw; (try dsimp only at hSw); have hcx := below_cell hSw hc0; go_simp; first | done | with_reducible rfl)
      (try simp only [Act.put, List.setIfInBounds_toArray, List.set_cons_zero, List.set_cons_succ])
      refine takeH (i := 3) (v := ?_) rfl (by kernel_rfl) (by kernel_rfl) (by kernel_rfl) (fun _ _ _ h => h) (Or.inl ⟨by rfl, ?_⟩) (by assumption) ?_
      rotate_left
      · (intro w hSw; (try dsimp only at hSw); go_simp; first | done | with_reducible rfl)
      (try simp only [Act.put, List.setIfInBounds_toArray, List.set_cons_zero, List.set_cons_succ])
      refine takeH (i := 4) (v := ?_) rfl (by kernel_rfl) (by kernel_rfl) (by kernel_rfl) (fun _ _ _ h => h) (Or.inl ⟨by rfl, ?_⟩) (by assumption) ?_
      rotate_left
      · (intro w hSw; (try dsimp only at hSw); have hcx := hi1; go_simp; first | done | with_reducible rfl)
      (try simp only [Act.put, List.setIfInBounds_toArray, List.set_cons_zero, List.set_cons_succ])
      refine takeH (i := 5) (v := ?_) rfl (by kernel_rfl) (by kernel_rfl) (by kernel_rfl) (fun _ _ _ h => h) (Or.inl ⟨by rfl, ?_⟩) (by assumption) ?_
      rotate_left
      · (intro w hSw; (try dsimp only at hSw); have hcx := below_cell hSw hc1; go_simp; first | done | with_reducible rfl)
      (try simp only [Act.put, List.setIfInBounds_toArray, List.set_cons_zero, List.set_cons_succ])
      refine takeH (i := 6) (v := ?_) rfl (by kernel_rfl) (by kernel_rfl) (by kernel_rfl) (fun _ _ _ h => h) (Or.inl ⟨by rfl, ?_⟩) (by assumption) ?_
      rotate_left
      · (intro w hSw; (try dsimp only at hSw); go_simp; first | done | with_reducible rfl)
      (try simp only [Act.put, List.setIfInBounds_toArray, List.set_cons_zero, List.set_cons_succ])
      refine wpAnyH_ready (rs := [7]) (by kernel_rfl) (by simp) ?_
      refine stepH rfl (fun K hK => ?_) AllReadyH.nil
      go_simp
      have hfz := below_fresh wa (.cells #[.int .i64 0, .int .i64 0, .slice none 0 0] 53)
      have hOP := OP.fresh wa 0 0 (.slice none 0 0)
      have hb := bnext ha hfz
      have hlt : w2.heap.size ≤ wa.heap.size := ha.size
      refine hK.out _ _ (hb) (fun _ => ?_)
      clear hK K
      (try simp only [Act.put, List.setIfInBounds_toArray, List.set_cons_zero, List.set_cons_succ])
      obtain ⟨pb, hpb⟩ : ∃ pb, pb = wa.heap.size := ⟨_, rfl⟩
      rw [← hpb] at hOP hlt ⊢
      clear hpb
      generalize wa.alloc (.cells #[.int .i64 0, .int .i64 0, .slice none 0 0] 53) = wb at hOP hb ⊢
      obtain ⟨o0, o1, o2, g0, g1, g2⟩ := hOP.cells
      refine wpAnyH_ready (rs := [8]) (by kernel_rfl) (by simp) ?_
      refine stepH rfl (fun K hK => ?_) AllReadyH.nil
      go_simp
      have hc := hb.trans ((only3 (w := wb) (B := pb) (.int .i64 x1) (.int .i64 x2) (.slice none 0 0)).below hlt hb.size)
      have hX := hOP.put3 x1 x2 (.slice none 0 0)
      refine hK.out _ _ (hc) (fun _ => ?_)
      clear hK K
      (try simp only [Act.put, List.setIfInBounds_toArray, List.set_cons_zero, List.set_cons_succ])
      refine wpAnyH_done (by kernel_rfl) ?_ _
      have HPB := Lib.hid (show w.heap.size < pb from Nat.lt_of_lt_of_le HP2.out.lt hlt)
      have HX3 := Lib.hid hX
      have HP3 := Lib.hid (HP2.out.below hc)
      have HO3 := Lib.hid (HOH2.out.below hc)
      have HB3 := Lib.hid (bnext HB2.out hc)
      clear hX hc hb hOP hlt o0 o1 o2 g0 g1 g2 hi0 hi1 hc0 hc1 hc2 HP2 HOH2 HB2
      generalize ((wb.setCell ⟨pb, 0, none⟩ (.int .i64 x1)).setCell ⟨pb, 1, none⟩ (.int .i64 x2)).setCell ⟨pb, 2, none⟩ (.slice none 0 0) = w3 at HX3 HP3 HO3 HB3 ⊢
      go_wp2
      go_loopw [6, 9] (fun at_ i wr => ∃ (k u : Nat) (sv : Value), k ≤ C ∧ i = .int .i64 k ∧ at_ = .int .i64 (u : Int) ∧ Hid ((JM.chs xs (zu3, 0) k).2 = (u, 0)) ∧ Hid (OP wr pb x1 x2 sv) ∧ Hid (OP wr w.heap.size 0 0 (.slice none 0 0)) ∧ Hid (OwnC w.heap.size wr sv (JM.chs xs (zu3, 0) k).1) ∧ Hid (OwnI w.heap.size wr (.slice hda 3 hdc) [x1, x2, (C : Int)]) ∧ Hid (Below w.heap.size w wr)) (fun _ i _ => C - (intOf i).toNat)
      case atStart => exact ⟨0, zu3, _, Nat.zero_le _, rfl, rfl, rfl, HX3.out, HP3.out, OwnG.nil hlC _ _ _, HO3.out, HB3.out⟩
      case round =>
        obtain ⟨k, u, sv, hk, rfl, rfl, hst, hx, hp, ho, hh, hbl⟩ := hrel
        clear HX3 HP3 HO3 HB3
        have hc2 := atI_cell hh.out.rd 2 _ rfl hi2
        have hC6 := HC6.out
        by_cases hlt : k < C
        · have hq2 : (k : Int) < (C : Int) := by omega
          have hul : u ≤ xs.length := by
            have := JM.chs_used xs (zu3, 0) HBY.out HU3.out k
            rw [hst.out] at this; exact this
          obtain ⟨v2, hcut, hrd2⟩ := (HV.out.below hbl.out).cutL' u hul
          have hM := rRead v2 _ 7 wr hrd2 (by decide)
          have hsh := many_shift xs u 7
          have hMl := JM.many_length (xs.drop u) (0, 0) 7
          have hMu := (JM.many_small (xs.drop u) (0, 0) hrd2.bytes (Nat.zero_le _) 7).2
          rw [List.length_drop] at hMu
          have hcs : JM.chs xs (zu3, 0) (k + 1) = ((JM.chs xs (zu3, 0) k).1 ++ [JM.toChg (JM.many xs (u, 0) 7).1], (JM.many xs (u, 0) 7).2) := by
            show (_, _) = (_, _); rw [hst.out]
          rw [hsh] at hcs
          generalize JM.many (xs.drop u) (0, 0) 7 = M at hM hMl hMu hcs
          obtain ⟨l7, n7, e7⟩ := M
          obtain ⟨k', s', t', v', a', b', c', rfl⟩ := list7 hMl
          simp only at hM hMu hcs
          have HM : Hid (Calls Try.prog 89 #[v2, .int .i64 7] wr _) := hM
          have HXL := Lib.hid (show xs.length ≤ 9223372036854775807 by
            obtain ⟨_, _, _, _, hn1, hn2, hcm, _⟩ := HV.out
            unfold maxLen at hcm
            omega)
          have HCS := Lib.hid hcs
          have HST := Lib.hid hst.out
          clear hM hsh hMl hcs hrd2 hst
          go_wp2_with fail
          refine HM.out.mono ?_
          rintro e w2 (⟨hne, rfl, hb2⟩ | ⟨rfl, civ, rfl, hoc, hb2⟩)
          · have HB5 := Lib.hid (bnext hbl.out hb2)
            have HP5 := Lib.hid (hp.out.below hb2)
            have HR2 := Lib.hid (show R = JM.bad e7 by
              have h1 : (JM.chs xs (zu3, 0) (k + 1)).2.2 ≠ 0 := by rw [HCS.out]; exact hne
              have h2 := JM.chs_err_le (by omega : k + 1 ≤ C) h1
              rw [HFIN.out, fin_bad (by rw [h2]; exact h1), h2, HCS.out])
            have hne' : (e7 != 0) = true := bne_t hne
            obtain ⟨o0, o1, o2, g0, g1, g2⟩ := HP5.out.cells
            clear hx hp ho hbl hh hc2 hb2 hne HM HCS HST HFIN
            go_wp2
            refine rdec_ret rfl rfl rfl (HP5.out.put3 0 0 (.slice none 0 0)) rfl ⟨.slice none 0 0, ?_, ?_, ?_⟩
            · rw [HR2.out]; rfl
            · rw [HR2.out]; exact OwnG.nil hlC _ _ _
            · exact seen HB5.out (Nat.le_refl _) (only3 _ _ _)
          · obtain ⟨B1, hB1⟩ : ∃ B, B = wr.heap.size := ⟨_, rfl⟩
            rw [← hB1] at hoc
            obtain ⟨ci, cc, rfl⟩ : ∃ a c, civ = .slice a 7 c := by obtain ⟨a, c, h, _⟩ := hoc.rd.shape; exact ⟨a, c, h⟩
            have HI2 := Lib.hid hoc
            have hyl := JM.chs_length xs (zu3, 0) k
            have HS1 := Lib.hid (show (JM.chs xs (zu3, 0) (k + 1)).1 = (JM.chs xs (zu3, 0) k).1 ++ [(k', s', t', v', a', b', c')] by rw [HCS.out]; rfl)
            have HS2 := Lib.hid (show (JM.chs xs (zu3, 0) (k + 1)).2 = (u + n7, 0) by rw [HCS.out])
            generalize (JM.chs xs (zu3, 0) k).1 = ys at ho hyl HS1
            obtain ⟨asv, csv, rfl, hcsv, _⟩ := ho.out.rd.shape
            rw [hyl] at hx ho
            have HYB := Lib.hid (show ys.length ≤ 1073741824 by omega)
            have HX2 := Lib.hid (hx.out.below hb2)
            have HP2 := Lib.hid (hp.out.below hb2)
            have HO2 := Lib.hid (ho.out.below hb2)
            have HH2 := Lib.hid (hh.out.below hb2)
            have HB2 := Lib.hid (bnext hbl.out hb2)
            have HSZ := Lib.hid (show w.heap.size ≤ w2.drew.heap.size from HB2.out.size)
            have hw1 : (u : Int) + (n7 : Int) ≤ 9223372036854775807 := by have := HXL.out; omega
            have HSUM := Lib.hid (show (u : Int) + (n7 : Int) = ((u + n7 : Nat) : Int) by omega)
            have c0 : w2.drew.cell? ⟨pb, 2, none⟩ = some (.slice asv k csv) := HX2.out.cells.2.2.1
            obtain ⟨by0, oy0, hj0, _, _⟩ := atI HI2.out.rd 0 _ rfl
            obtain ⟨by1, oy1, hj1, _, _⟩ := atI HI2.out.rd 1 _ rfl
            obtain ⟨by2, oy2, hj2, _, _⟩ := atI HI2.out.rd 2 _ rfl
            obtain ⟨by3, oy3, hj3, _, _⟩ := atI HI2.out.rd 3 _ rfl
            obtain ⟨by4, oy4, hj4, _, _⟩ := atI HI2.out.rd 4 _ rfl
            obtain ⟨by5, oy5, hj5, _, _⟩ := atI HI2.out.rd 5 _ rfl
            obtain ⟨by6, oy6, hj6, _, _⟩ := atI HI2.out.rd 6 _ rfl
            have hj0 : ∀ w0, (Instr.indexAt 36 (.slice ci 7 cc) (.int .i64 0)).run Try.prog w0 = .ok (.pointer (some ⟨by0, oy0, none⟩)) w0 := hj0
            have hj1 : ∀ w0, (Instr.indexAt 36 (.slice ci 7 cc) (.int .i64 1)).run Try.prog w0 = .ok (.pointer (some ⟨by1, oy1, none⟩)) w0 := hj1
            have hj2 : ∀ w0, (Instr.indexAt 36 (.slice ci 7 cc) (.int .i64 2)).run Try.prog w0 = .ok (.pointer (some ⟨by2, oy2, none⟩)) w0 := hj2
            have hj3 : ∀ w0, (Instr.indexAt 36 (.slice ci 7 cc) (.int .i64 3)).run Try.prog w0 = .ok (.pointer (some ⟨by3, oy3, none⟩)) w0 := hj3
            have hj4 : ∀ w0, (Instr.indexAt 36 (.slice ci 7 cc) (.int .i64 4)).run Try.prog w0 = .ok (.pointer (some ⟨by4, oy4, none⟩)) w0 := hj4
            have hj5 : ∀ w0, (Instr.indexAt 36 (.slice ci 7 cc) (.int .i64 5)).run Try.prog w0 = .ok (.pointer (some ⟨by5, oy5, none⟩)) w0 := hj5
            have hj6 : ∀ w0, (Instr.indexAt 36 (.slice ci 7 cc) (.int .i64 6)).run Try.prog w0 = .ok (.pointer (some ⟨by6, oy6, none⟩)) w0 := hj6
            clear hx hp ho hbl hh hc2 hb2 hyl HM HCS HST hoc hB1 hul hcut
            go_wp2
            have HI3 := Lib.hid (show OwnI B1 w2.drew (.slice ci 7 cc) [k', s', t', v', a', b', c'] from HI2.out.drewN 1)
            have HX3 := Lib.hid (show OP w2.drew pb x1 x2 (.slice asv k csv) from HX2.out)
            have HP3 := Lib.hid (show OP w2.drew w.heap.size 0 0 (.slice none 0 0) from HP2.out)
            have HO3 := Lib.hid (show OwnC w.heap.size w2.drew (.slice asv k csv) ys from HO2.out.drewN 1)
            have HH3 := Lib.hid (show OwnI w.heap.size w2.drew (.slice hda 3 hdc) [x1, x2, (C : Int)] from HH2.out.drewN 1)
            have HB3 := Lib.hid HB2.out.drew
            clear HI2 HX2 HP2 HO2 HH2 HB2
            refine wp_region_held_drew (S := fun w' => OwnI B1 w' (.slice ci 7 cc) [k', s', t', v', a', b', c']) (by kernel_rfl) HI3.out (fun ha => ?_)
            replace ha := HI3.out
            generalize w2.drew = wa at ha HI3 HX3 HP3 HO3 HH3 HB3 HSZ c0 ⊢
            refine takeH (i := 0) (v := ?_) rfl (by kernel_rfl) (by kernel_rfl) (by kernel_rfl) (fun _ _ _ h => h) (Or.inl ⟨by rfl, ?_⟩) (by assumption) ?_
            rotate_left
            · (intro w hSw; (try dsimp only at hSw); go_simp; first | done | with_reducible rfl)
            (try simp only [Act.put, List.setIfInBounds_toArray, List.set_cons_zero, List.set_cons_succ])
            refine takeH (i := 2) (v := ?_) rfl (by kernel_rfl) (by kernel_rfl) (by kernel_rfl) (fun _ _ _ h => h) (Or.inl ⟨by rfl, ?_⟩) (by assumption) ?_
            rotate_left
            · (intro w hSw; (try dsimp only at hSw); go_simp; first | done | with_reducible rfl)
            (try simp only [Act.put, List.setIfInBounds_toArray, List.set_cons_zero, List.set_cons_succ])
            refine takeH (i := 3) (v := ?_) rfl (by kernel_rfl) (by kernel_rfl) (by kernel_rfl) (fun _ _ _ h => h) (Or.inl ⟨by rfl, ?_⟩) (by assumption) ?_
            rotate_left
            · (intro w hSw; (try dsimp only at hSw); have hcx := hj0; go_simp; first | done | with_reducible rfl)
            (try simp only [Act.put, List.setIfInBounds_toArray, List.set_cons_zero, List.set_cons_succ])
            refine takeH (i := 4) (v := ?_) rfl (by kernel_rfl) (by kernel_rfl) (by kernel_rfl) (fun _ _ _ h => h) (Or.inl ⟨by rfl, ?_⟩) (by assumption) ?_
            rotate_left
            · (intro w hSw; (try dsimp only at hSw); have hcx := atI_cell hSw.rd 0 _ rfl hj0; go_simp; first | done | with_reducible rfl)
            (try simp only [Act.put, List.setIfInBounds_toArray, List.set_cons_zero, List.set_cons_succ])
            refine takeH (i := 5) (v := ?_) rfl (by kernel_rfl) (by kernel_rfl) (by kernel_rfl) (fun _ _ _ h => h) (Or.inl ⟨by rfl, ?_⟩) (by assumption) ?_
            rotate_left
            · (intro w hSw; (try dsimp only at hSw); go_simp; first | done | with_reducible rfl)
            (try simp only [Act.put, List.setIfInBounds_toArray, List.set_cons_zero, List.set_cons_succ])
            refine takeH (i := 6) (v := ?_) rfl (by kernel_rfl) (by kernel_rfl) (by kernel_rfl) (fun _ _ _ h => h) (Or.inl ⟨by rfl, ?_⟩) (by assumption) ?_
            rotate_left
            · (intro w hSw; (try dsimp only at hSw); have hcx := hj1; go_simp; first | done | with_reducible rfl)
            (try simp only [Act.put, List.setIfInBounds_toArray, List.set_cons_zero, List.set_cons_succ])
            refine takeH (i := 7) (v := ?_) rfl (by kernel_rfl) (by kernel_rfl) (by kernel_rfl) (fun _ _ _ h => h) (Or.inl ⟨by rfl, ?_⟩) (by assumption) ?_
            rotate_left
            · (intro w hSw; (try dsimp only at hSw); have hcx := atI_cell hSw.rd 1 _ rfl hj1; go_simp; first | done | with_reducible rfl)
            (try simp only [Act.put, List.setIfInBounds_toArray, List.set_cons_zero, List.set_cons_succ])
            refine takeH (i := 8) (v := ?_) rfl (by kernel_rfl) (by kernel_rfl) (by kernel_rfl) (fun _ _ _ h => h) (Or.inl ⟨by rfl, ?_⟩) (by assumption) ?_
            rotate_left
            · (intro w hSw; (try dsimp only at hSw); go_simp; first | done | with_reducible rfl)
            (try simp only [Act.put, List.setIfInBounds_toArray, List.set_cons_zero, List.set_cons_succ])
            refine takeH (i := 9) (v := ?_) rfl (by kernel_rfl) (by kernel_rfl) (by kernel_rfl) (fun _ _ _ h => h) (Or.inl ⟨by rfl, ?_⟩) (by assumption) ?_
            rotate_left
            · (intro w hSw; (try dsimp only at hSw); have hcx := hj2; go_simp; first | done | with_reducible rfl)
            (try simp only [Act.put, List.setIfInBounds_toArray, List.set_cons_zero, List.set_cons_succ])
            refine takeH (i := 10) (v := ?_) rfl (by kernel_rfl) (by kernel_rfl) (by kernel_rfl) (fun _ _ _ h => h) (Or.inl ⟨by rfl, ?_⟩) (by assumption) ?_
            rotate_left
            · (intro w hSw; (try dsimp only at hSw); have hcx := atI_cell hSw.rd 2 _ rfl hj2; go_simp; first | done | with_reducible rfl)
            (try simp only [Act.put, List.setIfInBounds_toArray, List.set_cons_zero, List.set_cons_succ])
            refine takeH (i := 11) (v := ?_) rfl (by kernel_rfl) (by kernel_rfl) (by kernel_rfl) (fun _ _ _ h => h) (Or.inl ⟨by rfl, ?_⟩) (by assumption) ?_
            rotate_left
            · (intro w hSw; (try dsimp only at hSw); go_simp; first | done | with_reducible rfl)
            (try simp only [Act.put, List.setIfInBounds_toArray, List.set_cons_zero, List.set_cons_succ])
            refine takeH (i := 12) (v := ?_) rfl (by kernel_rfl) (by kernel_rfl) (by kernel_rfl) (fun _ _ _ h => h) (Or.inl ⟨by rfl, ?_⟩) (by assumption) ?_
            rotate_left
            · (intro w hSw; (try dsimp only at hSw); have hcx := hj3; go_simp; first | done | with_reducible rfl)
            (try simp only [Act.put, List.setIfInBounds_toArray, List.set_cons_zero, List.set_cons_succ])
            refine takeH (i := 13) (v := ?_) rfl (by kernel_rfl) (by kernel_rfl) (by kernel_rfl) (fun _ _ _ h => h) (Or.inl ⟨by rfl, ?_⟩) (by assumption) ?_
            rotate_left
            · (intro w hSw; (try dsimp only at hSw); have hcx := atI_cell hSw.rd 3 _ rfl hj3; go_simp; first | done | with_reducible rfl)
            (try simp only [Act.put, List.setIfInBounds_toArray, List.set_cons_zero, List.set_cons_succ])
            refine takeH (i := 14) (v := ?_) rfl (by kernel_rfl) (by kernel_rfl) (by kernel_rfl) (fun _ _ _ h => h) (Or.inl ⟨by rfl, ?_⟩) (by assumption) ?_
            rotate_left
            · (intro w hSw; (try dsimp only at hSw); go_simp; first | done | with_reducible rfl)
            (try simp only [Act.put, List.setIfInBounds_toArray, List.set_cons_zero, List.set_cons_succ])
            refine takeH (i := 15) (v := ?_) rfl (by kernel_rfl) (by kernel_rfl) (by kernel_rfl) (fun _ _ _ h => h) (Or.inl ⟨by rfl, ?_⟩) (by assumption) ?_
            rotate_left
            · (intro w hSw; (try dsimp only at hSw); have hcx := hj4; go_simp; first | done | with_reducible rfl)
            (try simp only [Act.put, List.setIfInBounds_toArray, List.set_cons_zero, List.set_cons_succ])
            refine takeH (i := 16) (v := ?_) rfl (by kernel_rfl) (by kernel_rfl) (by kernel_rfl) (fun _ _ _ h => h) (Or.inl ⟨by rfl, ?_⟩) (by assumption) ?_
            rotate_left
            · (intro w hSw; (try dsimp only at hSw); have hcx := atI_cell hSw.rd 4 _ rfl hj4; go_simp; first | done | with_reducible rfl)
            (try simp only [Act.put, List.setIfInBounds_toArray, List.set_cons_zero, List.set_cons_succ])
            refine takeH (i := 17) (v := ?_) rfl (by kernel_rfl) (by kernel_rfl) (by kernel_rfl) (fun _ _ _ h => h) (Or.inl ⟨by rfl, ?_⟩) (by assumption) ?_
            rotate_left
            · (intro w hSw; (try dsimp only at hSw); go_simp; first | done | with_reducible rfl)
            (try simp only [Act.put, List.setIfInBounds_toArray, List.set_cons_zero, List.set_cons_succ])
            refine takeH (i := 18) (v := ?_) rfl (by kernel_rfl) (by kernel_rfl) (by kernel_rfl) (fun _ _ _ h => h) (Or.inl ⟨by rfl, ?_⟩) (by assumption) ?_
            rotate_left
            · (intro w hSw; (try dsimp only at hSw); have hcx := hj5; go_simp; first | done | with_reducible rfl)
            (try simp only [Act.put, List.setIfInBounds_toArray, List.set_cons_zero, List.set_cons_succ])
            refine takeH (i := 19) (v := ?_) rfl (by kernel_rfl) (by kernel_rfl) (by kernel_rfl) (fun _ _ _ h => h) (Or.inl ⟨by rfl, ?_⟩) (by assumption) ?_
            rotate_left
            · (intro w hSw; (try dsimp only at hSw); have hcx := atI_cell hSw.rd 5 _ rfl hj5; go_simp; first | done | with_reducible rfl)
            (try simp only [Act.put, List.setIfInBounds_toArray, List.set_cons_zero, List.set_cons_succ])
            refine takeH (i := 20) (v := ?_) rfl (by kernel_rfl) (by kernel_rfl) (by kernel_rfl) (fun _ _ _ h => h) (Or.inl ⟨by rfl, ?_⟩) (by assumption) ?_
            rotate_left
            · (intro w hSw; (try dsimp only at hSw); go_simp; first | done | with_reducible rfl)
            (try simp only [Act.put, List.setIfInBounds_toArray, List.set_cons_zero, List.set_cons_succ])
            refine takeH (i := 21) (v := ?_) rfl (by kernel_rfl) (by kernel_rfl) (by kernel_rfl) (fun _ _ _ h => h) (Or.inl ⟨by rfl, ?_⟩) (by assumption) ?_
            rotate_left
            · (intro w hSw; (try dsimp only at hSw); have hcx := hj6; go_simp; first | done | with_reducible rfl)
            (try simp only [Act.put, List.setIfInBounds_toArray, List.set_cons_zero, List.set_cons_succ])
            refine takeH (i := 22) (v := ?_) rfl (by kernel_rfl) (by kernel_rfl) (by kernel_rfl) (fun _ _ _ h => h) (Or.inl ⟨by rfl, ?_⟩) (by assumption) ?_
            rotate_left
            · (intro w hSw; (try dsimp only at hSw); have hcx := atI_cell hSw.rd 6 _ rfl hj6; go_simp; first | done | with_reducible rfl)
            (try simp only [Act.put, List.setIfInBounds_toArray, List.set_cons_zero, List.set_cons_succ])
            refine takeH (i := 23) (v := ?_) rfl (by kernel_rfl) (by kernel_rfl) (by kernel_rfl) (fun _ _ _ h => h) (Or.inl ⟨by rfl, ?_⟩) (by assumption) ?_
            rotate_left
            · (intro w hSw; (try dsimp only at hSw); go_simp; first | done | with_reducible rfl)
            (try simp only [Act.put, List.setIfInBounds_toArray, List.set_cons_zero, List.set_cons_succ])
            refine takeH (i := 24) (v := ?_) rfl (by kernel_rfl) (by kernel_rfl) (by kernel_rfl) (fun _ _ _ h => h) (Or.inl ⟨by rfl, ?_⟩) (by assumption) ?_
            rotate_left
            · (intro w hSw; (try dsimp only at hSw); go_simp; first | done | with_reducible rfl)
            (try simp only [Act.put, List.setIfInBounds_toArray, List.set_cons_zero, List.set_cons_succ])
            refine wpAnyH_ready (rs := [1, 25]) (by kernel_rfl) (by simp) ?_
            refine stepH rfl (fun K hK => ?_) (stepH rfl (fun K hK => ?_) AllReadyH.nil)
            · have hcl := c0
              go_simp
              refine hK.out _ _ (HI3.out) (fun _ => ?_)
              clear hK K
              (try simp only [Act.put, List.setIfInBounds_toArray, List.set_cons_zero, List.set_cons_succ])
              refine wpAnyH_ready (rs := [25]) (by kernel_rfl) (by simp) ?_
              refine stepH rfl (fun K hK => ?_) AllReadyH.nil
              go_simp
              refine hK.out _ _ (HI3.out.below (below_fresh _ _)) (fun _ => ?_)
              clear hK K
              (try simp only [Act.put, List.setIfInBounds_toArray, List.set_cons_zero, List.set_cons_succ])
              refine wpAnyH_ready (rs := [26]) (by kernel_rfl) (by simp) ?_
              refine stepH rfl (fun K hK => ?_) AllReadyH.nil
              refine step_appG1 chgE (k', s', t', v', a', b', c') rfl _ _ rfl rfl HO3.out rfl HYB.out HSZ.out ?_
              intro v6 w6 ho6 hb6 hk6
              obtain ⟨av6, cv6, rfl, _, _⟩ := ho6.rd.shape
              have hi6 := ownG_keep HI3.out hk6 (by decide)
              have hx6 : OP w6 pb x1 x2 (.slice asv k csv) := OP.keep (e := 50) HX3.out (by decide) hk6
              obtain ⟨o0, o1, o2, g0, g1, g2⟩ := hx6.cells
              refine hK.out _ _ (hi6) (fun _ => ?_)
              clear hK K
              (try simp only [Act.put, List.setIfInBounds_toArray, List.set_cons_zero, List.set_cons_succ])
              refine takeH (i := 27) (v := ?_) rfl (by kernel_rfl) (by kernel_rfl) (by kernel_rfl) (fun _ _ _ h => h) (Or.inl ⟨by rfl, ?_⟩) (by assumption) ?_
              rotate_left
              · (intro w hSw; (try dsimp only at hSw); go_simp; first | done | with_reducible rfl)
              (try simp only [Act.put, List.setIfInBounds_toArray, List.set_cons_zero, List.set_cons_succ])
              refine wpAnyH_ready (rs := [28]) (by kernel_rfl) (by simp) ?_
              refine stepH rfl (fun K hK => ?_) AllReadyH.nil
              go_simp
              have hon : Only pb w6 (w6.setCell ⟨pb, 2, none⟩ (.slice av6 (ys.length + 1) cv6)) := Only.set 2 _
              have hi7 := ownG_only hi6 hx6 (by decide) hon
              refine hK.out _ _ (hi7) (fun _ => ?_)
              clear hK K
              (try simp only [Act.put, List.setIfInBounds_toArray, List.set_cons_zero, List.set_cons_succ])
              refine wpAnyH_done (by kernel_rfl) ?_ _
              have hpb := HPB.out
              have el : (ys ++ [(k', s', t', v', a', b', c')]).length = ys.length + 1 := by simp
              rw [el] at ho6
              have HX6 := Lib.hid (hx6.put (.slice av6 (ys.length + 1) cv6))
              have HP6 := Lib.hid ((OP.keep (e := 50) HP3.out (by decide) hk6).only hon (by omega))
              have HO6 := Lib.hid (show OwnC w.heap.size (w6.setCell ⟨pb, 2, none⟩ (.slice av6 (ys.length + 1) cv6)) (.slice av6 (ys.length + 1) cv6) (JM.chs xs (zu3, 0) (k + 1)).1 by rw [HS1.out]; exact ownC_only ho6 hx6 (by decide) hon)
              have HH6 := Lib.hid (ownG_only (ownG_keep HH3.out hk6 (by decide)) hx6 (by decide) hon)
              have HB6 := Lib.hid (seen (HB3.out.trans hb6) (by omega) hon)
              clear hx6 hon el ho6 hb6 hk6 hi6 hi7 o0 o1 o2 g0 g1 g2 c0 HX3 HP3 HO3 HH3 HB3 HI3 HSZ ha HS1 hpb
              generalize w6.setCell ⟨pb, 2, none⟩ (.slice av6 (ys.length + 1) cv6) = w7 at HX6 HP6 HO6 HH6 HB6 ⊢
              go_wp2
              rw [HSUM.out]
              go_roundw
              case rel => exact ⟨k + 1, u + n7, _, by omega, by go_num, rfl, HS2, HX6, HP6, HO6, HH6, HB6⟩
              case measure => simp [intOf]; omega
            · go_simp
              refine hK.out _ _ (HI3.out.below (below_fresh _ _)) (fun _ => ?_)
              clear hK K
              (try simp only [Act.put, List.setIfInBounds_toArray, List.set_cons_zero, List.set_cons_succ])
              refine wpAnyH_ready (rs := [1]) (by kernel_rfl) (by simp) ?_
              refine stepH rfl (fun K hK => ?_) AllReadyH.nil
              have hcl := below_cell (below_fresh wa (.cells #[.int .i64 k', .int .i64 s', .int .i64 t', .int .i64 v', .int .i64 a', .int .i64 b', .int .i64 c'] 50)) c0
              go_simp
              refine hK.out _ _ (HI3.out.below (below_fresh _ _)) (fun _ => ?_)
              clear hK K
              (try simp only [Act.put, List.setIfInBounds_toArray, List.set_cons_zero, List.set_cons_succ])
              refine wpAnyH_ready (rs := [26]) (by kernel_rfl) (by simp) ?_
              refine stepH rfl (fun K hK => ?_) AllReadyH.nil
              refine step_appG1 chgE (k', s', t', v', a', b', c') rfl _ _ rfl rfl HO3.out rfl HYB.out HSZ.out ?_
              intro v6 w6 ho6 hb6 hk6
              obtain ⟨av6, cv6, rfl, _, _⟩ := ho6.rd.shape
              have hi6 := ownG_keep HI3.out hk6 (by decide)
              have hx6 : OP w6 pb x1 x2 (.slice asv k csv) := OP.keep (e := 50) HX3.out (by decide) hk6
              obtain ⟨o0, o1, o2, g0, g1, g2⟩ := hx6.cells
              refine hK.out _ _ (hi6) (fun _ => ?_)
              clear hK K
              (try simp only [Act.put, List.setIfInBounds_toArray, List.set_cons_zero, List.set_cons_succ])
              refine takeH (i := 27) (v := ?_) rfl (by kernel_rfl) (by kernel_rfl) (by kernel_rfl) (fun _ _ _ h => h) (Or.inl ⟨by rfl, ?_⟩) (by assumption) ?_
              rotate_left
              · (intro w hSw; (try dsimp only at hSw); go_simp; first | done | with_reducible rfl)
              (try simp only [Act.put, List.setIfInBounds_toArray, List.set_cons_zero, List.set_cons_succ])
              refine wpAnyH_ready (rs := [28]) (by kernel_rfl) (by simp) ?_
              refine stepH rfl (fun K hK => ?_) AllReadyH.nil
              go_simp
              have hon : Only pb w6 (w6.setCell ⟨pb, 2, none⟩ (.slice av6 (ys.length + 1) cv6)) := Only.set 2 _
              have hi7 := ownG_only hi6 hx6 (by decide) hon
              refine hK.out _ _ (hi7) (fun _ => ?_)
              clear hK K
              (try simp only [Act.put, List.setIfInBounds_toArray, List.set_cons_zero, List.set_cons_succ])
              refine wpAnyH_done (by kernel_rfl) ?_ _
              have hpb := HPB.out
              have el : (ys ++ [(k', s', t', v', a', b', c')]).length = ys.length + 1 := by simp
              rw [el] at ho6
              have HX6 := Lib.hid (hx6.put (.slice av6 (ys.length + 1) cv6))
              have HP6 := Lib.hid ((OP.keep (e := 50) HP3.out (by decide) hk6).only hon (by omega))
              have HO6 := Lib.hid (show OwnC w.heap.size (w6.setCell ⟨pb, 2, none⟩ (.slice av6 (ys.length + 1) cv6)) (.slice av6 (ys.length + 1) cv6) (JM.chs xs (zu3, 0) (k + 1)).1 by rw [HS1.out]; exact ownC_only ho6 hx6 (by decide) hon)
              have HH6 := Lib.hid (ownG_only (ownG_keep HH3.out hk6 (by decide)) hx6 (by decide) hon)
              have HB6 := Lib.hid (seen (HB3.out.trans hb6) (by omega) hon)
              clear hx6 hon el ho6 hb6 hk6 hi6 hi7 o0 o1 o2 g0 g1 g2 c0 HX3 HP3 HO3 HH3 HB3 HI3 HSZ ha HS1 hpb
              generalize w6.setCell ⟨pb, 2, none⟩ (.slice av6 (ys.length + 1) cv6) = w7 at HX6 HP6 HO6 HH6 HB6 ⊢
              go_wp2
              rw [HSUM.out]
              go_roundw
              case rel => exact ⟨k + 1, u + n7, _, by omega, by go_num, rfl, HS2, HX6, HP6, HO6, HH6, HB6⟩
              case measure => simp [intOf]; omega
        · have hq2 : ¬ (k : Int) < (C : Int) := by omega
          obtain rfl : k = C := by omega
          have hfin := HFIN.out
          clear HFIN
          have hp0 : JM.chs xs (zu3, 0) k = ((JM.chs xs (zu3, 0) k).1, (u, 0)) := by rw [← hst.out]
          rw [hp0] at hfin
          clear hp0 hst
          generalize (JM.chs xs (zu3, 0) k).1 = ys at ho hfin
          obtain ⟨asv, csv, rfl, hcsv, _⟩ := ho.out.rd.shape
          obtain ⟨p0, p1, p2, _, _, _⟩ := hx.out.cells
          obtain ⟨o0, o1, o2, g0, g1, g2⟩ := hp.out.cells
          have hv := rValidate x1 x2 (.slice asv ys.length csv) ys wr ho.out.rd
          by_cases hee : JM.errP x1 x2 ys = 0
          · rw [hee] at hv
            have HV2 := Lib.hid hv
            have HFIN := Lib.hid (show R = (0, u, x1, x2, ys) by rw [hfin]; unfold fin; rw [if_neg (by simp), if_neg (by rw [hee]; simp)])
            clear hv hfin hee
            go_wp2_with fail
            refine HV2.out.mono ?_
            rintro e w5 ⟨rfl, hb5⟩
            have HX5 := Lib.hid (hx.out.below hb5)
            have HP5 := Lib.hid (hp.out.below hb5)
            have HO5 := Lib.hid (ho.out.below hb5)
            have HB5 := Lib.hid (bnext hbl.out hb5)
            clear hx hp ho hbl hh hc2 p0 p1 p2 o0 o1 o2 g0 g1 g2 hb5 HV2
            obtain ⟨p0, p1, p2, _, _, _⟩ := HX5.out.cells
            obtain ⟨o0, o1, o2, g0, g1, g2⟩ := HP5.out.cells
            go_wp2
            refine rdec_ret rfl rfl rfl (HP5.out.put3 x1 x2 _) rfl ⟨.slice asv ys.length csv, ?_, ?_, ?_⟩
            · rw [HFIN.out]
            · rw [HFIN.out]
              exact ownC_only HO5.out HP5.out (by decide) (only3 _ _ _)
            · exact seen HB5.out (Nat.le_refl _) (only3 _ _ _)
          · have HV2 := Lib.hid hv
            have HFIN := Lib.hid (show R = JM.bad (JM.errP x1 x2 ys) by rw [hfin]; unfold fin; rw [if_neg (by simp), if_pos hee])
            have hne : (JM.errP x1 x2 ys != 0) = true := bne_t hee
            generalize JM.errP x1 x2 ys = ee at HV2 HFIN hne
            clear hv hfin hee
            go_wp2_with fail
            refine HV2.out.mono ?_
            rintro e w5 ⟨rfl, hb5⟩
            have HP5 := Lib.hid (hp.out.below hb5)
            have HB5 := Lib.hid (bnext hbl.out hb5)
            clear hx hp ho hbl hh hc2 p0 p1 p2 o0 o1 o2 g0 g1 g2 hb5 HV2
            obtain ⟨o0, o1, o2, g0, g1, g2⟩ := HP5.out.cells
            go_wp2
            refine rdec_ret rfl rfl rfl (HP5.out.put3 0 0 (.slice none 0 0)) rfl ⟨.slice none 0 0, ?_, ?_, ?_⟩
            · rw [HFIN.out]; rfl
            · rw [HFIN.out]; exact OwnG.nil hlC _ _ _
            · exact seen HB5.out (Nat.le_refl _) (only3 _ _ _)

end Go.Proofs.Ytfdgoehfkfdgaaa.CO

namespace Go.Proofs.Ytfdgoehfkfdgaaa
open Go.RowKit
open JM (Chg)
open CM (Fp)
open WM (enc dec Bytes)

namespace CM
def encF (f : Fp) : List Int := JM.encP f.1 f.2.1 f.2.2
def flat (fs : List Fp) : List Int := fs.flatMap encF
def encL (fs : List Fp) : List Int := enc fs.length ++ flat fs
theorem flat_cons (f : Fp) (r : List Fp) : flat (f :: r) = encF f ++ flat r := List.flatMap_cons
theorem flat_snoc (fs : List Fp) (f : Fp) : flat (fs ++ [f]) = flat fs ++ encF f := by unfold flat; rw [List.flatMap_append]; simp
theorem encF_len {f : Fp} (h : errF f = 0) : (encF f).length ≤ 450 := by
  have hsm := JM.errP_small h
  have h1 := JM.encN_len _ (JM.head_small h)
  have h2 := JM.encCs_len f.2.2 hsm.2.2.2.2
  have h3 := hsm.2.2.1
  unfold encF JM.encP
  rw [List.length_append]
  simp only [List.length_cons, List.length_nil] at h1
  omega
theorem flat_len {fs : List Fp} (h : ∀ f ∈ fs, errF f = 0) : (flat fs).length ≤ fs.length * 450 := by
  induction fs with
  | nil => simp [flat]
  | cons f fs ih =>
    rw [flat_cons, List.length_append, List.length_cons]
    have := encF_len (h f (by simp))
    have := ih (fun g hg => h g (by simp [hg]))
    omega
theorem encL_bytes (fs : List Fp) : Bytes (encL fs) := by
  intro c hc
  unfold encL flat at hc
  rcases List.mem_append.1 hc with h | h
  · exact WM.enc_bytes _ c h
  · obtain ⟨y, _, hy⟩ := List.mem_flatMap.1 h
    exact JM.encP_bytes _ _ _ c hy

/-- What is read proposal by proposal: error, used, proposals. -/
def rest (xs : List Int) : Nat → List Fp → Nat → Int × Nat × List Fp
  | 0, U, u => (0, u, U)
  | n + 1, U, u => if (JM.decP (xs.drop u)).1 ≠ 0 then ((JM.decP (xs.drop u)).1, 0, []) else rest xs n (U ++ [((JM.decP (xs.drop u)).2.2.1, (JM.decP (xs.drop u)).2.2.2.1, (JM.decP (xs.drop u)).2.2.2.2)]) (u + (JM.decP (xs.drop u)).2.1)
def finL (r : Int × Nat × List Fp) : Int × Nat × List Fp := if r.1 ≠ 0 then (r.1, 0, []) else if errL (0, 0) r.2.2 ≠ 0 then (errL (0, 0) r.2.2, 0, []) else r
def decL (xs : List Int) : Int × Nat × List Fp :=
  if (dec 0 0 xs).2.2 ≠ 0 then ((dec 0 0 xs).2.2, 0, []) else if 9 < (dec 0 0 xs).1 then (3, 0, []) else finL (rest xs (dec 0 0 xs).1.toNat [] (dec 0 0 xs).2.1.toNat)
theorem rest_succ (xs : List Int) (n : Nat) (U : List Fp) (u : Nat) : rest xs (n + 1) U u = if (JM.decP (xs.drop u)).1 ≠ 0 then ((JM.decP (xs.drop u)).1, 0, []) else rest xs n (U ++ [((JM.decP (xs.drop u)).2.2.1, (JM.decP (xs.drop u)).2.2.2.1, (JM.decP (xs.drop u)).2.2.2.2)]) (u + (JM.decP (xs.drop u)).2.1) := by
  rw [rest]
theorem rest_enc {fs : List Fp} : ∀ (pre tail : List Int) (U : List Fp), (∀ f ∈ fs, errF f = 0) → rest (pre ++ (flat fs ++ tail)) fs.length U pre.length = (0, (pre ++ flat fs).length, U ++ fs) := by
  induction fs with
  | nil => intro pre tail U _; simp [rest, flat]
  | cons f r ih =>
    intro pre tail U h
    have hd : (pre ++ (flat (f :: r) ++ tail)).drop pre.length = encF f ++ (flat r ++ tail) := by rw [List.drop_left, flat_cons, List.append_assoc]
    have h1 := JM.decP_enc (h f (by simp)) (flat r ++ tail)
    have h1' : JM.decP ((pre ++ (flat (f :: r) ++ tail)).drop pre.length) = (0, (encF f).length, f.1, f.2.1, f.2.2) := by rw [hd]; exact h1
    rw [List.length_cons, rest_succ, h1', if_neg (by simp)]
    have h2 := ih (pre ++ encF f) tail (U ++ [f]) (fun g hg => h g (by simp [hg]))
    rw [show pre ++ (flat (f :: r) ++ tail) = (pre ++ encF f) ++ (flat r ++ tail) by rw [flat_cons]; simp [List.append_assoc]]
    rw [List.length_append] at h2
    show rest _ r.length (U ++ [f]) (pre.length + (encF f).length) = _
    rw [h2, flat_cons]
    simp [List.append_assoc]
theorem decL_enc {fs : List Fp} (h : Ok fs) (tail : List Int) : decL (encL fs ++ tail) = (0, (encL fs).length, fs) := by
  have h9 := h.nine
  have hd : dec 0 0 (encL fs ++ tail) = ((fs.length : Int), ((enc fs.length).length : Int), 0) := by
    unfold encL
    rw [List.append_assoc]
    exact WM.dec_enc0 fs.length _ (by omega)
  unfold decL
  rw [hd]
  rw [if_neg (by simp), if_neg (by simp; omega)]
  have hr := rest_enc (enc fs.length) tail [] h.all
  rw [show enc fs.length ++ (flat fs ++ tail) = encL fs ++ tail by unfold encL; rw [List.append_assoc]] at hr
  simp only [Int.toNat_natCast]
  rw [hr]
  unfold finL
  rw [if_neg (by simp)]
  simp only [List.nil_append]
  rw [if_neg (by simp; exact h)]
  rfl
theorem dec_num {xs : List Int} (hb : Bytes xs) : (∃ e : Int, e ≠ 0 ∧ dec 0 0 xs = (0, 0, e)) ∨ ∃ m : Nat, m < 18446744073709551616 ∧ dec 0 0 xs = ((m : Int), ((enc m).length : Int), 0) ∧ (enc m).length ≤ xs.length := by
  rcases WM.dec_two xs hb with ⟨e, he, h⟩ | ⟨m, hm, h, hl, _⟩
  · exact .inl ⟨e, by omega, h⟩
  · exact .inr ⟨m, hm, h, hl⟩
end CM

set_option maxRecDepth 100000 in
set_option maxHeartbeats 2000000 in
theorem rAppendC (v : Value) (bs : List Int) (u : Value) (fs : List Fp) (w : World) (h : Rd w v bs) (hu : RdF w u fs) (hok : CM.Ok fs) (hlen : bs.length ≤ 1000000) :
    Calls Try.prog 55 #[v, u] w fun e w' => ∃ v', e = .returned v' ∧ Rd w' v' (bs ++ CM.encL fs) ∧ Below w.heap.size w w' := by
  obtain ⟨ad, cp, rfl, hcp, _⟩ := hu.shape
  have h9 := hok.nine
  have hb0 := below_fresh w (.cells #[.int .i64 (fs.length : Int)] 3)
  have hri : RdI (w.alloc (.cells #[.int .i64 (fs.length : Int)] 3)) (.slice (some ⟨w.heap.size, 0, none⟩) 1 1) [(fs.length : Int)] := (ownG_fresh hlI 3 w [(fs.length : Int)] (by simp [maxLen])).rd
  have hA := rNumbers v bs _ [(fs.length : Int)] _ (h.below hb0) hri (by simp) (fun x hx => by rw [List.mem_singleton] at hx; subst hx; unfold JM.small; omega) (by omega)
  rw [show JM.encN [(fs.length : Int)] = enc fs.length by simp [JM.encN]] at hA
  have HA := Lib.hid hA
  have HB0 := Lib.hid hb0
  have HU := Lib.hid hu
  have HOK := Lib.hid hok.all
  have hel := WM.enc_len10 fs.length (by omega)
  have hfl := fun k => CM.flat_len (fs := fs.take k) (fun f hf => hok.all f (List.mem_of_mem_take hf))
  have HFL := Lib.hid (show ∀ k, (bs ++ enc fs.length ++ CM.flat (fs.take k)).length ≤ 1100000 from fun k => by
    have h1 := hfl k
    rw [List.length_take] at h1
    rw [List.length_append, List.length_append]
    omega)
  clear h hu hok hel hfl hA hb0 hri
  go_enter Try.func55, Try.ntmps55
  go_wp2_with fail
  refine HA.out.mono ?_
  rintro e w1 ⟨v1, rfl, ho1, hb1⟩
  have HO1 := Lib.hid ho1
  have HB1 := Lib.hid (bnext HB0.out hb1)
  clear ho1 hb1 HA HB0
  go_wp2
  go_loopw [0, 5] (fun u i wr => ∃ k : Nat, k ≤ fs.length ∧ i = .int .i64 k ∧ Hid (Rd wr u (bs ++ enc fs.length ++ CM.flat (fs.take k))) ∧ Hid (Below w.heap.size w wr)) (fun _ i _ => fs.length - (intOf i).toNat)
  case atStart => exact ⟨0, Nat.zero_le _, rfl, (by show Rd _ _ _; rw [List.take_zero]; simpa [CM.flat] using HO1.out), HB1.out⟩
  case round =>
    obtain ⟨k, hk, rfl, ho, hbl⟩ := hrel
    by_cases hlt : k < fs.length
    · have hq : (k : Int) < (fs.length : Int) := by omega
      have hk2 := List.getElem?_eq_getElem hlt
      generalize fs[k] = f at hk2
      have hsn : bs ++ enc fs.length ++ CM.flat (fs.take (k + 1)) = (bs ++ enc fs.length ++ CM.flat (fs.take k)) ++ CM.encF f := by rw [take_snocF hk2, CM.flat_snoc]; simp only [List.append_assoc]
      have hef := HOK.out f (List.mem_of_getElem? hk2)
      have hl1 := HFL.out k
      obtain ⟨x, m, cs⟩ := f
      obtain ⟨b, o, da, dl, dc, hi, hbw, c0, c1, c2, hrd⟩ := (HU.out.below hbl.out).at_ k x m cs hk2
      have HAP := Lib.hid (rAppendP _ _ x m (.slice da dl dc) cs wr ho.out hrd hef (by omega))
      have HSN := Lib.hid hsn
      have HBX := Lib.hid hbl.out
      clear hsn hef hk2 hrd ho hbl hl1
      go_wp2_with fail
      refine HAP.out.mono ?_
      rintro e w2 ⟨v2, rfl, ho2, hb2⟩
      have HB2 := Lib.hid (bnext HBX.out hb2)
      have HO2 := Lib.hid (show Rd w2 v2 (bs ++ enc fs.length ++ CM.flat (fs.take (k + 1))) by rw [HSN.out]; exact ho2)
      clear c0 c1 c2 hi hbw HAP HBX hb2 ho2 HSN
      go_wp2
      go_roundw
      case rel => exact ⟨k + 1, by omega, by go_num, HO2, HB2⟩
      case measure => simp [intOf]; omega
    · have hq : ¬ ((k : Int) < (fs.length : Int)) := by omega
      obtain rfl : k = fs.length := by omega
      rw [List.take_length, List.append_assoc] at ho
      go_wp2
      go_ret
      exact ⟨_, rfl, ho.out, hbl.out⟩

end Go.Proofs.Ytfdgoehfkfdgaaa

namespace Go.Proofs.Ytfdgoehfkfdgaaa
open Go.RowKit
open JM (Chg)
open CM (Fp)
open WM (enc dec Bytes)

set_option maxRecDepth 100000 in
set_option maxHeartbeats 4000000 in
theorem rDecodeC (v : Value) (xs : List Int) (w : World) (h : Rd w v xs) :
    Calls Try.prog 53 #[v] w fun e w' => ∃ v', e = .returned (.tuple #[v', .int .i64 ((CM.decL xs).2.1 : Int), .int .i64 (CM.decL xs).1]) ∧ RdF w' v' (CM.decL xs).2.2 ∧ Below w.heap.size w w' := by
  obtain ⟨va, vc, rfl, hvc⟩ := h.shape
  have hby := h.bytes
  have hU := rUint (.slice va xs.length vc) xs w h
  obtain ⟨R, hR⟩ : ∃ R, R = CM.decL xs := ⟨_, rfl⟩
  rw [← hR]
  have H := Lib.hid h
  clear h
  rcases CM.dec_num hby with ⟨e, he, hd⟩ | ⟨N, hN, hd, hl⟩
  · rw [hd] at hU
    have HR := Lib.hid (show R = (e, 0, []) by rw [hR, CM.decL, hd, if_pos he])
    have hne : (e != 0) = true := bne_t he
    have HU := Lib.hid hU
    clear hd hU hR he
    go_enter Try.func53, Try.ntmps53
    go_wp2_with fail
    refine HU.out.mono ?_
    rintro e' w1 ⟨rfl, rfl⟩
    go_wp2
    go_ret3
    exact ⟨_, by rw [HR.out]; rfl, by rw [HR.out]; exact RdF.nil _, Below.refl _ _⟩
  rw [hd] at hU
  have HU := Lib.hid hU
  clear hU
  by_cases h9 : 9 < N
  · have HR := Lib.hid (show R = (3, 0, []) by rw [hR, CM.decL, hd, if_neg (by simp), if_pos (by simp only; omega)])
    have hq9 : (9 : Int) < (N : Int) := by omega
    clear hd hR
    go_enter Try.func53, Try.ntmps53
    go_wp2_with fail
    refine HU.out.mono ?_
    rintro e' w1 ⟨rfl, rfl⟩
    go_wp2
    go_ret3
    exact ⟨_, by rw [HR.out]; rfl, by rw [HR.out]; exact RdF.nil _, Below.refl _ _⟩
  have HR := Lib.hid (show R = CM.finL (CM.rest xs N [] (enc N).length) by rw [hR, CM.decL, hd, if_neg (by simp), if_neg (by simp only; omega)]; rfl)
  have hq9 : ¬ (9 : Int) < (N : Int) := by omega
  generalize (enc N).length = u0 at HU HR hl
  have HL := Lib.hid hl
  have HBY := Lib.hid hby
  clear hd hR hl hN hby
  go_enter Try.func53, Try.ntmps53
  go_wp2_with fail
  refine HU.out.mono ?_
  rintro e' w1 ⟨rfl, rfl⟩
  clear HU
  go_wp2
  go_loopw [6, 8, 9] (fun us c i wr => ∃ (k uu : Nat) (qs : List Pro) (U : List Fp), k ≤ N ∧ i = .int .i64 k ∧ us = .int .i64 uu ∧ Hid (uu ≤ xs.length) ∧ Hid (U.length ≤ k) ∧ Hid (OwnQ w.heap.size wr c qs) ∧ Hid (TelO w.heap.size wr qs U) ∧ Hid (Below w.heap.size w wr) ∧ Hid (R = CM.finL (CM.rest xs (N - k) U uu))) (fun _ _ i _ => N - (intOf i).toNat)
  case atStart => exact ⟨0, u0, [], [], Nat.zero_le _, rfl, rfl, HL.out, Nat.le_refl _, OwnG.nil hlQ _ _ _, trivial, Below.refl _ _, HR.out⟩
  case round =>
    obtain ⟨k, uu, qs, U, hk, rfl, rfl, huu, hul, ho, ht, hbl, he⟩ := hrel
    clear HR HL
    obtain ⟨c1, c2, rfl, hc2, _⟩ := ho.out.rd.shape
    have HQF := Lib.hid ht.out.rd.len
    by_cases hlt : k < N
    · have hq : (k : Int) < (N : Int) := by omega
      obtain ⟨v2, hcut, hrd⟩ := (H.out.below hbl.out).cutL uu huu.out
      have hD := CO.rDecode v2 _ wr hrd
      have hus := JM.decP_used (xs.drop uu) (fun c hc => HBY.out c (List.mem_of_mem_drop hc))
      have hrs := CM.rest_succ xs (N - (k + 1)) U uu
      rw [show N - (k + 1) + 1 = N - k by omega] at hrs
      have e1 := he.out
      rw [hrs] at e1
      rw [List.length_drop] at hus
      generalize JM.decP (xs.drop uu) = d at hD hus e1
      obtain ⟨er, used, a, n, cs⟩ := d
      simp only at hD hus e1
      have HD := Lib.hid hD
      have HUS := Lib.hid hus
      have hxl : xs.length ≤ 9223372036854775807 := by
        obtain ⟨_, n', _, hv, h1, h2, h3, _⟩ := H.out
        unfold maxLen at h3
        omega
      have hw1 : (uu : Int) + (used : Int) ≤ 9223372036854775807 := by have := huu.out; omega
      clear he hrs hD hus hrd
      by_cases hE : er = 0
      · subst hE
        have E1 := Lib.hid (show R = CM.finL (CM.rest xs (N - (k + 1)) (U ++ [(a, n, cs)]) (uu + used)) by rw [e1, if_neg (by simp)])
        clear e1
        go_wp2_with fail
        refine HD.out.mono ?_
        rintro e w2 ⟨sv, rfl, hos, hb2⟩
        obtain ⟨sa, sc, rfl, _, _⟩ := hos.rd.shape
        have hbx := below_fresh w2 (.cells #[.int .i64 a, .int .i64 n, .slice sa cs.length sc] 53)
        have hpx := PBox.fresh w2 a n (.slice sa cs.length sc)
        have HWS := Lib.hid (World.size_alloc w2 (.cells #[.int .i64 a, .int .i64 n, .slice sa cs.length sc] 53))
        have hox := (ho.out.below hb2).below hbx
        have HTX := Lib.hid (TelO.snoc (f := (a, n, cs)) (q := (a, n, sa, cs.length, sc)) ⟨rfl, rfl, (OwnG.below (OwnG.mono hos hbl.out.size) hbx)⟩ ((ht.out.below hb2).below hbx))
        have HBX := Lib.hid (bnext (bnext hbl.out hb2) hbx)
        have hsx := HBX.out.size
        have hlq : qs.length ≤ 1073741824 := by have := hul.out; have := HQF.out; omega
        have HUL := Lib.hid (show (U ++ [(a, n, cs)]).length ≤ k + 1 by rw [List.length_append]; have := hul.out; simp; omega)
        have HUU := Lib.hid (show uu + used ≤ xs.length by have := HUS.out; have := huu.out; omega)
        clear hbx hpx hos hb2 ho ht hbl HD HUS hul
        go_wp2_with (at_builtin; refine wp_appG1' proE (a, n, sa, cs.length, sc) _ HWS.out rfl _ _ rfl rfl hox rfl hlq hsx ?_)
        intro v3 w3 ho3 hb3 hk3
        have HO3 := Lib.hid ho3
        have HB3 := Lib.hid (HBX.out.trans hb3)
        have HT3 := Lib.hid (HTX.out.keep hk3)
        clear ho3 hb3 hk3 hox HTX HBX hsx hlq HWS
        go_wp2
        go_roundw
        case rel => exact ⟨k + 1, uu + used, _, _, by omega, by go_num, by go_num, HUU, HUL, HO3, HT3, HB3, E1⟩
        case measure => simp [intOf]; omega
      · have E1 := Lib.hid (show R = (er, 0, []) by rw [e1, if_pos hE, CM.finL, if_pos hE])
        have hne : (er != 0) = true := bne_t hE
        clear e1 hE
        go_wp2_with fail
        refine HD.out.mono ?_
        rintro e w2 ⟨sv, rfl, hos, hb2⟩
        obtain ⟨sa, sc, rfl, _, _⟩ := hos.rd.shape
        have HB2 := Lib.hid (bnext (bnext hbl.out hb2) (below_fresh w2 (.cells #[.int .i64 a, .int .i64 n, .slice sa cs.length sc] 53)))
        clear hos hb2 HD ho ht hbl
        go_wp2
        go_ret3
        exact ⟨_, by rw [E1.out]; rfl, by rw [E1.out]; exact RdF.nil _, HB2.out⟩
    · have hq : ¬ ((k : Int) < (N : Int)) := by omega
      obtain rfl : k = N := by omega
      have e1 : R = CM.finL (0, uu, U) := by rw [he.out, Nat.sub_self, CM.rest]
      have e2 : R = if CM.errL (0, 0) U ≠ 0 then (CM.errL (0, 0) U, 0, []) else (0, uu, U) := by rw [e1, CM.finL, if_neg (by simp)]
      have HF := Lib.hid (show RdF wr (.slice c1 qs.length c2) U from ⟨qs, ho.out.rd, ht.out.rd⟩)
      have hV := rValidateC _ U wr HF.out
      generalize CM.errL (0, 0) U = E at hV e2
      have HV := Lib.hid hV
      clear he e1 hV ho ht
      by_cases hE : E = 0
      · subst hE
        have E1 := Lib.hid (show R = (0, uu, U) by rw [e2, if_neg (by simp)])
        clear e2
        go_wp2_with fail
        refine HV.out.mono ?_
        rintro e w2 ⟨rfl, hb2⟩
        have HB2 := Lib.hid (bnext hbl.out hb2)
        have HF2 := Lib.hid (HF.out.below hb2)
        clear HV HF hb2 hbl
        go_wp2
        go_ret3
        exact ⟨_, by rw [E1.out]; rfl, by rw [E1.out]; exact HF2.out, HB2.out⟩
      · have E1 := Lib.hid (show R = (E, 0, []) by rw [e2, if_pos hE])
        have hne : (E != 0) = true := bne_t hE
        clear e2 hE
        go_wp2_with fail
        refine HV.out.mono ?_
        rintro e w2 ⟨rfl, hb2⟩
        have HB2 := Lib.hid (bnext hbl.out hb2)
        clear HV HF hb2 hbl
        go_wp2
        go_ret3
        exact ⟨_, by rw [E1.out]; rfl, by rw [E1.out]; exact RdF.nil _, HB2.out⟩

end Go.Proofs.Ytfdgoehfkfdgaaa
