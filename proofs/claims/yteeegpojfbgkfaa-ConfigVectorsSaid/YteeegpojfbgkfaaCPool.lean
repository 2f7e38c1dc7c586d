/-
  The call of the laws' Pool: a valid configuration. Conditions: the list of numbers reads; its length is at most 2^62.
-/
import Derived.Test.YteeegpojfbgkfaaJKit
import Derived.Test.YteeegpojfbgkfaaKG
namespace Go.Proofs.Yteeegpojfbgkfaa
open Go.RowKit
open JM (Chg)
open CM (Fp)

/-- A valid proposal whose changes are the call's own. -/
def Good (base : Nat) (w : World) (q : Pro) : Prop := ∃ cs, OwnC base w (.slice q.2.2.1 q.2.2.2.1 q.2.2.2.2) cs ∧ JM.errP q.1 q.2.1 cs = 0
theorem Good.below {base : Nat} {w w' : World} {q : Pro} (h : Good base w q) (hb : Below w.heap.size w w') : Good base w' q := by
  obtain ⟨cs, h1, h2⟩ := h; exact ⟨cs, h1.below hb, h2⟩
theorem Good.keep {base : Nat} {w w' : World} {q : Pro} (h : Good base w q) (hk : KeepsX 45 w w') : Good base w' q := by
  obtain ⟨cs, h1, h2⟩ := h; exact ⟨cs, ownG_keep h1 hk (by decide), h2⟩
theorem Good.mono {base b2 : Nat} {w : World} {q : Pro} (h : Good base w q) (hle : b2 ≤ base) : Good b2 w q := by
  obtain ⟨cs, h1, h2⟩ := h; exact ⟨cs, h1.mono hle, h2⟩


/-! The identifiers: each administrator's numbers one after the other. -/
def Nxt (pr : Int × Int) (q : Pro) : Prop := (q.1 = pr.1 ∧ q.2.1 = pr.2 + 1) ∨ (pr.1 < q.1 ∧ q.2.1 = 1)
def Chn : Int × Int → List Pro → Prop
  | _, [] => True
  | pr, q :: r => Nxt pr q ∧ Chn (q.1, q.2.1) r
def endK : Int × Int → List Pro → Int × Int
  | pr, [] => pr
  | _, q :: r => endK (q.1, q.2.1) r
theorem Chn.snoc {q : Pro} : ∀ {qs : List Pro} {pr : Int × Int}, Chn pr qs → Nxt (endK pr qs) q → Chn pr (qs ++ [q])
  | [], _, _, k => ⟨k, trivial⟩
  | _ :: _, _, h, k => ⟨h.1, Chn.snoc h.2 k⟩
theorem endK_snoc {q : Pro} : ∀ {qs : List Pro} {pr : Int × Int}, endK pr (qs ++ [q]) = (q.1, q.2.1)
  | [], _ => rfl
  | _ :: qs, _ => endK_snoc (qs := qs)
def EndAt (e : Int × Int) (j i : Nat) : Prop := (i = 0 ∧ e.1 < 201 + (j : Int)) ∨ (0 < i ∧ e = (201 + (j : Int), (i : Int)))
def GoodL (base : Nat) (w : World) (qs : List Pro) (j i : Nat) : Prop := (∀ q ∈ qs, Good base w q) ∧ Chn (0, 0) qs ∧ EndAt (endK (0, 0) qs) j i
theorem GoodL.below {base : Nat} {w w' : World} {qs : List Pro} {j i : Nat} (h : GoodL base w qs j i) (hb : Below w.heap.size w w') : GoodL base w' qs j i := ⟨fun q hq => (h.1 q hq).below hb, h.2⟩
theorem GoodL.keep {base : Nat} {w w' : World} {qs : List Pro} {j i : Nat} (h : GoodL base w qs j i) (hk : KeepsX 45 w w') : GoodL base w' qs j i := ⟨fun q hq => (h.1 q hq).keep hk, h.2⟩
theorem GoodL.snoc {base : Nat} {w : World} {qs : List Pro} {j i : Nat} {r : Option Addr × Nat × Nat} (h : GoodL base w qs j i) (k : Good base w (201 + (j : Int), (i : Int) + 1, r)) : GoodL base w (qs ++ [(201 + (j : Int), (i : Int) + 1, r)]) j (i + 1) := by
  obtain ⟨h1, h2, h3⟩ := h
  refine ⟨fun q hq => ?_, h2.snoc ?_, .inr ⟨by omega, by rw [endK_snoc]; simp⟩⟩
  · rcases List.mem_append.1 hq with hq | hq
    · exact h1 q hq
    · rw [List.mem_singleton] at hq; subst hq; exact k
  · unfold Nxt
    rcases h3 with ⟨rfl, h3⟩ | ⟨_, h3⟩
    · exact .inr ⟨h3, by simp⟩
    · rw [h3]; exact .inl ⟨rfl, rfl⟩
theorem GoodL.next {base : Nat} {w : World} {qs : List Pro} {j i : Nat} (h : GoodL base w qs j i) : GoodL base w qs (j + 1) 0 := by
  obtain ⟨h1, h2, h3⟩ := h
  refine ⟨h1, h2, .inl ⟨rfl, ?_⟩⟩
  rcases h3 with ⟨_, h3⟩ | ⟨_, h3⟩
  · omega
  · rw [h3]; simp only; omega
theorem good_ok {base : Nat} {w : World} : ∀ {qs : List Pro} {pr : Int × Int}, (∀ q ∈ qs, Good base w q) → Chn pr qs → ∃ fs, Tel w qs fs ∧ CM.errL pr fs = 0
  | [], _, _, _ => ⟨[], trivial, rfl⟩
  | q :: qs, pr, h, hc => by
    obtain ⟨fs, h1, h2⟩ := good_ok (fun q hq => h q (List.mem_cons_of_mem _ hq)) hc.2
    obtain ⟨cs, h3, h4⟩ := h q (by simp)
    have hn := hc.1
    unfold Nxt at hn
    refine ⟨(q.1, q.2.1, cs) :: fs, ⟨⟨rfl, rfl, h3.rd⟩, h1⟩, CM.errL_mk h4 ?_ (fun h5 => ?_) h2⟩
    · rw [CM.cmpP_pos]; simp only; omega
    · simp only at h5 ⊢; omega

theorem errP_list {j i : Nat} {cs : List Chg} (hj : j ≤ 2) (hi : i ≤ 2) (h0 : cs ≠ []) (h6 : cs.length ≤ 6) (h : JM.errS [] cs = 0) : JM.errP (201 + (j : Int)) ((i : Int) + 1) cs = 0 := by
  unfold JM.errP
  rw [if_neg (by rw [show JM.isAdm (201 + (j : Int)) = true from JM.isAdm_iff.2 ⟨by omega, by omega⟩]; simp; omega), if_neg h0, if_neg (by omega), h]
theorem errS_one {y : Chg} (h : JM.errCh y = 0) : JM.errS [] [y] = 0 := by
  rw [errS_cons, if_neg (by simp [h])]; rfl
theorem errS_two {y z : Chg} (h : JM.errCh y = 0) (h2 : JM.errCh z = 0) (hs : JM.sim y z = false) : JM.errS [] [y, z] = 0 := by
  rw [errS_cons, if_neg (by simp [h]), if_neg (by simp), errS_cons, if_neg (by simp [h2]), if_neg (by simp [hs])]; rfl

theorem kAtQ {w : World} {v : Value} {l : List Int} {i : Nat} (h : RdI w v l) (hl : l.length ≤ 4611686018427387904) (n : Nat) : Calls Try.prog 37 #[v, .int .i64 (i : Int)] (w.drewN n) fun e w' => e = .returned (.int .i64 (atV l i)) ∧ ∃ k, w' = w.drewN k :=
  (kAt v l i (w.drewN n) h hl).mono (by rintro e w1 ⟨rfl, rfl⟩; exact ⟨rfl, n, rfl⟩)
theorem kDigitQ {x : Int} {b i : Nat} (w : World) (hb : 2 ≤ b) (hb2 : b ≤ 16) (hi : i ≤ 40) (n : Nat) : Calls Try.prog 58 #[.int .i64 x, .int .i64 b, .int .i64 i] (w.drewN n) fun e w' => e = .returned (.int .i64 (dg x b i : Int)) ∧ ∃ k, w' = w.drewN k :=
  (kDigit x b i (w.drewN n) hb hb2 hi).mono (by rintro e w1 ⟨rfl, rfl⟩; exact ⟨rfl, n, rfl⟩)

set_option maxRecDepth 100000 in
set_option maxHeartbeats 8000000 in
theorem kPool (v : Value) (l : List Int) (w : World) (h : RdI w v l) (hl : l.length ≤ 4611686018427387904) :
    Calls Try.prog 28 #[v] w fun e w' => ∃ u fs, e = .returned u ∧ RdF w' u fs ∧ CM.Ok fs ∧ Below w.heap.size w w' := by
  obtain ⟨ad, cp, rfl, hcp, _⟩ := h.shape
  have HV := Lib.hid h
  have HL := Lib.hid hl
  obtain ⟨LL, hLL⟩ : ∃ LL, LL = l.length := ⟨_, rfl⟩
  rw [← hLL] at HV ⊢
  clear h hl hLL
  go_enter Try.func28, Try.ntmps28
  go_wp2
  go_loopw [3, 4, 5] (fun u t a wr => ∃ (j tt : Nat) (qs : List Pro), j ≤ 3 ∧ a = .int .i64 j ∧ t = .int .i64 tt ∧ tt ≤ 3 + 6 * j ∧ qs.length ≤ 3 * j ∧ Hid (OwnQ w.heap.size wr u qs) ∧ Hid (GoodL w.heap.size wr qs j 0) ∧ Hid (Below w.heap.size w wr)) (fun _ _ a _ => 3 - (intOf a).toNat)
  case atStart => exact ⟨0, 3, [], by decide, rfl, rfl, by decide, by decide, OwnG.nil hlQ _ _ _, ⟨(fun q hq => by cases hq), trivial, .inl ⟨rfl, by show (0 : Int) < 201 + ((0 : Nat) : Int); omega⟩⟩, Below.refl _ _⟩
  case round =>
    obtain ⟨j, tt, qs, hj, rfl, rfl, htt, hql, ho, hgd, hb⟩ := hrel
    by_cases hj3 : j < 3
    · have hqj : (j : Int) < 3 := by omega
      have hdl := dg_lt (atV l j) 0 (show 0 < 4 by decide)
      have hd := fun w => kDigit (atV l j) 4 0 w (by decide) (by decide) (by decide)
      have hA := fun w' hb => kAt _ l j w' (RdG.below HV.out hb) HL.out
      obtain ⟨d, hde⟩ : ∃ d, d = dg (atV l j) 4 0 := ⟨_, rfl⟩
      obtain ⟨X, hXe⟩ : ∃ X, X = atV l j := ⟨_, rfl⟩
      rw [← hXe] at hd hA hde hdl
      rw [← hde] at hd hdl
      have HD := Lib.hid hd
      have HA := Lib.hid hA
      clear hd hA hde hXe
      go_wp2
      obtain ⟨wo, rfl⟩ : ∃ wo, wo = wr := ⟨wr, rfl⟩
      go_loopw [3, 4, 6] (fun u t a wr => ∃ (i tt : Nat) (qs : List Pro), i ≤ d ∧ a = .int .i64 i ∧ t = .int .i64 tt ∧ tt ≤ 3 + 6 * j + 2 * i ∧ qs.length ≤ 3 * j + i ∧ Hid (OwnQ w.heap.size wr u qs) ∧ Hid (GoodL w.heap.size wr qs j i) ∧ Hid (Below w.heap.size w wr)) (fun _ _ a _ => 4 - (intOf a).toNat)
      case atStart => exact ⟨0, tt, qs, Nat.zero_le _, rfl, rfl, by omega, by omega, ho.out, hgd.out, hb.out⟩
      case round =>
        clear ho hgd hb htt hql
        obtain ⟨i, tt, qs, hi, rfl, rfl, htt, hql, ho, hgd, hb⟩ := hrel
        by_cases hid : i < d
        · have hqi : (i : Int) < (d : Int) := by omega
          have hi2 : i ≤ 2 := by omega
          have hj2 : j ≤ 2 := by omega
          have hA1 := fun w' hb => kAt _ l tt w' (RdG.below HV.out hb) HL.out
          have hA2 := fun w' hb => kAt _ l (tt + 1) w' (RdG.below HV.out hb) HL.out
          have hD2 := dg_lt (atV l tt) 12 (show 0 < 2 by decide)
          have hAQ := fun w' (hb : Below w.heap.size w w') n => kAtQ (i := tt) (RdG.below HV.out hb) HL.out n
          have hDQ := fun w' n => kDigitQ (x := atV l tt) (b := 2) (i := 12) w' (by decide) (by decide) (by decide) n
          obtain ⟨dd, hdd⟩ : ∃ dd, dd = dg (atV l tt) 2 12 := ⟨_, rfl⟩
          rw [← hdd] at hD2 hDQ
          obtain ⟨Y, hY⟩ : ∃ Y, Y = atV l tt := ⟨_, rfl⟩
          rw [← hY] at hA1 hAQ hDQ hdd
          obtain ⟨Z, hZ⟩ : ∃ Z, Z = atV l (tt + 1) := ⟨_, rfl⟩
          rw [← hZ] at hA2
          have hA2' : Hid (∀ w', Below w.heap.size w w' → Calls Try.prog 37 #[.slice ad LL cp, .int .i64 ((tt : Int) + 1)] w' fun e w'' => e = .returned (.int .i64 Z) ∧ w' = w'') := fun w' hb => hA2 w' hb
          have HA1 := Lib.hid hA1
          have HAQ := Lib.hid hAQ
          have HDQ := Lib.hid hDQ
          clear hA1 hA2 hAQ hDQ hdd hY hZ
          go_wp2_with fail
          refine (HA.out _ hb.out).mono ?_
          rintro e w1 ⟨rfl, rfl⟩
          go_wp2_with fail
          refine (HD.out _).mono ?_
          rintro e w1 ⟨rfl, rfl⟩
          go_wp2_with fail
          refine (HA1.out _ hb.out).mono ?_
          rintro e w1 ⟨rfl, rfl⟩
          go_wp2_with fail
          refine (kChange Y _).mono ?_
          rintro e w1 ⟨k1, s1, t1, v1, a1, b1, c1, rfl, he1, hb1⟩
          have hbh := below_fresh w1 (.cells #[.int .i64 k1, .int .i64 s1, .int .i64 t1, .int .i64 v1, .int .i64 a1, .int .i64 b1, .int .i64 c1] 63)
          have hch : OwnC w1.heap.size (w1.alloc (.cells #[.int .i64 k1, .int .i64 s1, .int .i64 t1, .int .i64 v1, .int .i64 a1, .int .i64 b1, .int .i64 c1] 63)) (.slice (some ⟨w1.heap.size, 0, none⟩) 1 1) [(k1, s1, t1, v1, a1, b1, c1)] := ownG_fresh hlC 63 w1 [(k1, s1, t1, v1, a1, b1, c1)] (by simp [maxLen])
          have hsc := World.size_alloc w1 (.cells #[.int .i64 k1, .int .i64 s1, .int .i64 t1, .int .i64 v1, .int .i64 a1, .int .i64 b1, .int .i64 c1] 63)
          obtain ⟨wc, hwc⟩ : ∃ wc, w1.alloc (.cells #[.int .i64 k1, .int .i64 s1, .int .i64 t1, .int .i64 v1, .int .i64 a1, .int .i64 b1, .int .i64 c1] 63) = wc := ⟨_, rfl⟩
          rw [hwc] at hbh hch hsc
          have hbp := below_fresh wc (.cells #[.int .i64 (201 + (j : Int)), .int .i64 ((i : Int) + 1), .slice (some ⟨w1.heap.size, 0, none⟩) 1 1] 45)
          have hop := OP.fresh wc (201 + (j : Int)) ((i : Int) + 1) (.slice (some ⟨w1.heap.size, 0, none⟩) 1 1)
          rw [hsc] at hop
          obtain ⟨w2, hw2⟩ : ∃ w2, wc.alloc (.cells #[.int .i64 (201 + (j : Int)), .int .i64 ((i : Int) + 1), .slice (some ⟨w1.heap.size, 0, none⟩) 1 1] 45) = w2 := ⟨_, rfl⟩
          rw [hw2] at hbp hop
          have HWC := Lib.hid hwc
          have HW2 := Lib.hid hw2
          have HB2 := Lib.hid (bnext (bnext hb1 hbh) hbp)
          have HO2 := Lib.hid ((hch.below hbp).mono hb1.size)
          have HP2 := Lib.hid hop
          have HE1 := Lib.hid he1
          have HBW2 := Lib.hid (bnext hb.out HB2.out)
          have HS1 := Lib.hid hb1.size
          clear hbh hch hsc hwc hbp hop hw2 he1 hb1
          go_wp2_with fail
          rw [HWC.out, HW2.out]
          refine (hA2'.out _ HBW2.out).mono ?_
          rintro e w3 ⟨rfl, rfl⟩
          go_wp2_with fail
          refine (kChange Z _).mono ?_
          rintro e w3 ⟨k2, s2, t2, v2, a2, b2, c2, rfl, he2, hb3⟩
          have hbx := below_fresh w3 (.cells #[.int .i64 k2, .int .i64 s2, .int .i64 t2, .int .i64 v2, .int .i64 a2, .int .i64 b2, .int .i64 c2] 63)
          have hcx := CBox.fresh w3 k2 s2 t2 v2 a2 b2 c2
          obtain ⟨w4, hw4⟩ : ∃ w4, w3.alloc (.cells #[.int .i64 k2, .int .i64 s2, .int .i64 t2, .int .i64 v2, .int .i64 a2, .int .i64 b2, .int .i64 c2] 63) = w4 := ⟨_, rfl⟩
          rw [hw4] at hbx hcx
          have HW4 := Lib.hid hw4
          have HX4 := Lib.hid hcx
          have HB4 := Lib.hid (bnext HB2.out (bnext hb3 hbx))
          have HO4 := Lib.hid (HO2.out.below (bnext hb3 hbx))
          have HP4 := Lib.hid (HP2.out.below (bnext hb3 hbx))
          have HE2 := Lib.hid he2
          have HBW4 := Lib.hid (bnext hb.out HB4.out)
          have HAQ4 := Lib.hid (HAQ.out w4 HBW4.out)
          have HDQ4 := Lib.hid (HDQ.out w4)
          have HPN := Lib.hid (show wr.heap.size ≤ w1.heap.size + 1 from Nat.le_succ_of_le HS1.out)
          clear hbx hcx hw4 he2 hb3 HWC HW2 HB2 HO2 HP2 HBW2 HA HD HA1 hA2' HAQ HDQ
          obtain ⟨x0, x1, x2, x3, x4, x5, x6⟩ := HX4.out
          obtain ⟨o0, o1, o2, g0, g1, g2⟩ := HP4.out.cells
          obtain ⟨by_, oy, hj0, _, y0, y1, y2, y3, y4, y5, y6⟩ := atC HO4.out.rd 0 _ _ _ _ _ _ _ rfl
          have hj0 : ∀ w0, (Instr.indexAt 43 (.slice (some ⟨w1.heap.size, 0, none⟩) 1 1) (.int .i64 0)).run Try.prog w0 = .ok (.pointer (some ⟨by_, oy, none⟩)) w0 := hj0
          by_cases hd1 : dd = 1
          · subst hd1
            by_cases hkk : k2 = k1
            · have n1 : (k2 != k1) = false := bne_f hkk
              by_cases hss : s2 = s1
              · have n2 : (s2 != s1) = false := bne_f hss
                clear hkk hss
                go_wp2
                rw [HW4.out]
                go_quiet (first | (go_at_call 37; exact HAQ4.out _) | (go_at_call 58; exact HDQ4.out _))
                obtain ⟨w5, hw5⟩ : ∃ w5, w4.drewN nq = w5 := ⟨_, rfl⟩
                have HX5 := Lib.hid (show CBox (w4.drewN nq) w3.heap.size k2 s2 t2 v2 a2 b2 c2 from HX4.out)
                have HB5 := Lib.hid (show Below wr.heap.size wr (w4.drewN nq) from HB4.out.trans (below_drewN _ _ _))
                have HO5 := Lib.hid (HO4.out.drewN nq)
                have HP5 := Lib.hid (show OP (w4.drewN nq) (w1.heap.size + 1) (201 + (j : Int)) ((i : Int) + 1) (.slice (some ⟨w1.heap.size, 0, none⟩) 1 1) from HP4.out)
                clear x0 x1 x2 x3 x4 x5 x6 o0 o1 o2 g0 g1 g2 y0 y1 y2 y3 y4 y5 y6 hj0 HX4 HB4 HO4 HP4 HBW4 HAQ4 HDQ4
                rw [hw5] at HX5 HB5 HO5 HP5 ⊢
                clear hw5
                obtain ⟨o0, o1, o2, g0, g1, g2⟩ := HP5.out.cells
                have HERR := Lib.hid (errP_list (j := j) (i := i) (cs := [(k1, s1, t1, v1, a1, b1, c1)]) hj2 hi2 (by simp) (by simp) (errS_one HE1.out))
                have HOUT := Lib.hid (ho.out.below HB5.out)
                have HGD := Lib.hid (hgd.out.below HB5.out)
                have HBW := Lib.hid (bnext hb.out HB5.out)
                have hszw := HBW.out.size
                have hszr := hb.out.size
                have hqb : qs.length ≤ 1073741824 := by omega
                go_wp2_with (at_builtin; refine wp_appG1' proE (201 + (j : Int), (i : Int) + 1, (some (⟨w1.heap.size, 0, none⟩ : Addr)), 1, 1) _ rfl rfl _ _ rfl rfl HOUT.out rfl hqb hszw ?_)
                intro v8 w8 ho8 hb8 hk8
                have HO8 := Lib.hid ho8
                have HB8 := Lib.hid (HBW.out.trans hb8)
                have HG8 : Hid (GoodL w.heap.size w8 (qs ++ [(201 + (j : Int), (i : Int) + 1, (some (⟨w1.heap.size, 0, none⟩ : Addr)), 1, 1)]) j (i + 1)) := by
                  have hg0 : Good w.heap.size w5 (201 + (j : Int), (i : Int) + 1, (some (⟨w1.heap.size, 0, none⟩ : Addr)), 1, 1) := ⟨_, OwnG.mono HO5.out hszr, HERR.out⟩
                  exact GoodL.snoc (HGD.out.keep hk8) (hg0.keep hk8)
                have hlq : (qs ++ [((201 : Int) + (j : Int), (i : Int) + 1, (some (⟨w1.heap.size, 0, none⟩ : Addr)), 1, 1)]).length ≤ 3 * j + (i + 1) := by rw [List.length_append]; simp; omega
                have HLQ := Lib.hid hlq
                clear ho8 hb8 hk8 hlq HOUT HGD HBW hszw hszr ho hgd hb
                go_wp2
                go_roundw
                case rel => exact ⟨i + 1, tt + 2, _, by omega, by go_num, by go_num, by omega, HLQ.out, HO8, HG8, HB8⟩
                case measure => simp [intOf]; omega
              · have n2 : (s2 != s1) = true := bne_t hss
                have hsim : JM.sim (k1, s1, t1, v1, a1, b1, c1) (k2, s2, t2, v2, a2, b2, c2) = false := by unfold JM.sim; simp; omega
                have HSIM := Lib.hid hsim
                clear hkk hss hsim
                go_wp2
                rw [HW4.out]
                go_quiet (first | (go_at_call 37; exact HAQ4.out _) | (go_at_call 58; exact HDQ4.out _))
                obtain ⟨w5, hw5⟩ : ∃ w5, w4.drewN nq = w5 := ⟨_, rfl⟩
                have HX5 := Lib.hid (show CBox (w4.drewN nq) w3.heap.size k2 s2 t2 v2 a2 b2 c2 from HX4.out)
                have HB5 := Lib.hid (show Below wr.heap.size wr (w4.drewN nq) from HB4.out.trans (below_drewN _ _ _))
                have HO5 := Lib.hid (HO4.out.drewN nq)
                have HP5 := Lib.hid (show OP (w4.drewN nq) (w1.heap.size + 1) (201 + (j : Int)) ((i : Int) + 1) (.slice (some ⟨w1.heap.size, 0, none⟩) 1 1) from HP4.out)
                clear x0 x1 x2 x3 x4 x5 x6 o0 o1 o2 g0 g1 g2 y0 y1 y2 y3 y4 y5 y6 hj0 HX4 HB4 HO4 HP4 HBW4 HAQ4 HDQ4
                rw [hw5] at HX5 HB5 HO5 HP5 ⊢
                clear hw5
                obtain ⟨o0, o1, o2, g0, g1, g2⟩ := HP5.out.cells
                obtain ⟨x0, x1, x2, x3, x4, x5, x6⟩ := HX5.out
                have hsz5 := HB5.out.size
                go_wp2_with (at_builtin; refine wp_appG1 chgE (k2, s2, t2, v2, a2, b2, c2) rfl _ _ rfl rfl HO5.out rfl (by simp) hsz5 ?_)
                intro v6 w6 ho6 hb6 hk6 _
                obtain ⟨av6, cv6, rfl⟩ : ∃ a c, v6 = .slice a 2 c := by obtain ⟨a, c, h, _⟩ := ho6.rd.shape; exact ⟨a, c, h⟩
                have hp6 := OP.keep (e := 63) HP5.out (by decide) hk6
                have hon : Only (w1.heap.size + 1) w6 (w6.setCell ⟨w1.heap.size + 1, 2, none⟩ (.slice av6 2 cv6)) := Only.set 2 _
                have HP7 := Lib.hid (hp6.put (.slice av6 2 cv6))
                have HO7 := Lib.hid (ownC_only ho6 hp6 (by decide) hon)
                have HB7 := Lib.hid (seen (HB5.out.trans hb6) HPN.out hon)
                have HERR := Lib.hid (errP_list (j := j) (i := i) (cs := [(k1, s1, t1, v1, a1, b1, c1), (k2, s2, t2, v2, a2, b2, c2)]) hj2 hi2 (by simp) (by simp) (errS_two HE1.out HE2.out HSIM.out))
                obtain ⟨q0, q1, q2, h0, h1, h2⟩ := hp6.cells
                obtain ⟨r0, r1, r2, _, _, _⟩ := HP7.out.cells
                clear o0 o1 o2 g0 g1 g2 x0 x1 x2 x3 x4 x5 x6 ho6 hb6 hk6 hp6 hon hsz5 HX5 HO5 HP5 HB5
                have HOUT := Lib.hid (ho.out.below HB7.out)
                have HGD := Lib.hid (hgd.out.below HB7.out)
                have HBW := Lib.hid (bnext hb.out HB7.out)
                have hszw := HBW.out.size
                have hszr := hb.out.size
                have hqb : qs.length ≤ 1073741824 := by omega
                go_wp2_with (at_builtin; refine wp_appG1' proE (201 + (j : Int), (i : Int) + 1, av6, 2, cv6) w6.heap.size (World.size_setCell ..) rfl _ _ rfl rfl HOUT.out rfl hqb hszw ?_)
                intro v8 w8 ho8 hb8 hk8
                have HO8 := Lib.hid ho8
                have HB8 := Lib.hid (HBW.out.trans hb8)
                have HG8 : Hid (GoodL w.heap.size w8 (qs ++ [(201 + (j : Int), (i : Int) + 1, av6, 2, cv6)]) j (i + 1)) := by
                  have hg0 : Good w.heap.size (w6.setCell ⟨w1.heap.size + 1, 2, none⟩ (.slice av6 2 cv6)) (201 + (j : Int), (i : Int) + 1, av6, 2, cv6) := ⟨_, OwnG.mono HO7.out hszr, HERR.out⟩
                  exact GoodL.snoc (HGD.out.keep hk8) (hg0.keep hk8)
                have hlq : (qs ++ [((201 : Int) + (j : Int), (i : Int) + 1, av6, 2, cv6)]).length ≤ 3 * j + (i + 1) := by rw [List.length_append]; simp; omega
                have HLQ := Lib.hid hlq
                clear ho8 hb8 hk8 hlq HOUT HGD HBW hszw hszr ho hgd hb
                go_wp2
                go_roundw
                case rel => exact ⟨i + 1, tt + 2, _, by omega, by go_num, by go_num, by omega, HLQ.out, HO8, HG8, HB8⟩
                case measure => simp [intOf]; omega
            · have n1 : (k2 != k1) = true := bne_t hkk
              have hsim : JM.sim (k1, s1, t1, v1, a1, b1, c1) (k2, s2, t2, v2, a2, b2, c2) = false := by unfold JM.sim; simp; omega
              have HSIM := Lib.hid hsim
              clear hkk hsim
              go_wp2
              rw [HW4.out]
              go_quiet (first | (go_at_call 37; exact HAQ4.out _) | (go_at_call 58; exact HDQ4.out _))
              obtain ⟨w5, hw5⟩ : ∃ w5, w4.drewN nq = w5 := ⟨_, rfl⟩
              have HX5 := Lib.hid (show CBox (w4.drewN nq) w3.heap.size k2 s2 t2 v2 a2 b2 c2 from HX4.out)
              have HB5 := Lib.hid (show Below wr.heap.size wr (w4.drewN nq) from HB4.out.trans (below_drewN _ _ _))
              have HO5 := Lib.hid (HO4.out.drewN nq)
              have HP5 := Lib.hid (show OP (w4.drewN nq) (w1.heap.size + 1) (201 + (j : Int)) ((i : Int) + 1) (.slice (some ⟨w1.heap.size, 0, none⟩) 1 1) from HP4.out)
              clear x0 x1 x2 x3 x4 x5 x6 o0 o1 o2 g0 g1 g2 y0 y1 y2 y3 y4 y5 y6 hj0 HX4 HB4 HO4 HP4 HBW4 HAQ4 HDQ4
              rw [hw5] at HX5 HB5 HO5 HP5 ⊢
              clear hw5
              obtain ⟨o0, o1, o2, g0, g1, g2⟩ := HP5.out.cells
              obtain ⟨x0, x1, x2, x3, x4, x5, x6⟩ := HX5.out
              have hsz5 := HB5.out.size
              go_wp2_with (at_builtin; refine wp_appG1 chgE (k2, s2, t2, v2, a2, b2, c2) rfl _ _ rfl rfl HO5.out rfl (by simp) hsz5 ?_)
              intro v6 w6 ho6 hb6 hk6 _
              obtain ⟨av6, cv6, rfl⟩ : ∃ a c, v6 = .slice a 2 c := by obtain ⟨a, c, h, _⟩ := ho6.rd.shape; exact ⟨a, c, h⟩
              have hp6 := OP.keep (e := 63) HP5.out (by decide) hk6
              have hon : Only (w1.heap.size + 1) w6 (w6.setCell ⟨w1.heap.size + 1, 2, none⟩ (.slice av6 2 cv6)) := Only.set 2 _
              have HP7 := Lib.hid (hp6.put (.slice av6 2 cv6))
              have HO7 := Lib.hid (ownC_only ho6 hp6 (by decide) hon)
              have HB7 := Lib.hid (seen (HB5.out.trans hb6) HPN.out hon)
              have HERR := Lib.hid (errP_list (j := j) (i := i) (cs := [(k1, s1, t1, v1, a1, b1, c1), (k2, s2, t2, v2, a2, b2, c2)]) hj2 hi2 (by simp) (by simp) (errS_two HE1.out HE2.out HSIM.out))
              obtain ⟨q0, q1, q2, h0, h1, h2⟩ := hp6.cells
              obtain ⟨r0, r1, r2, _, _, _⟩ := HP7.out.cells
              clear o0 o1 o2 g0 g1 g2 x0 x1 x2 x3 x4 x5 x6 ho6 hb6 hk6 hp6 hon hsz5 HX5 HO5 HP5 HB5
              have HOUT := Lib.hid (ho.out.below HB7.out)
              have HGD := Lib.hid (hgd.out.below HB7.out)
              have HBW := Lib.hid (bnext hb.out HB7.out)
              have hszw := HBW.out.size
              have hszr := hb.out.size
              have hqb : qs.length ≤ 1073741824 := by omega
              go_wp2_with (at_builtin; refine wp_appG1' proE (201 + (j : Int), (i : Int) + 1, av6, 2, cv6) w6.heap.size (World.size_setCell ..) rfl _ _ rfl rfl HOUT.out rfl hqb hszw ?_)
              intro v8 w8 ho8 hb8 hk8
              have HO8 := Lib.hid ho8
              have HB8 := Lib.hid (HBW.out.trans hb8)
              have HG8 : Hid (GoodL w.heap.size w8 (qs ++ [(201 + (j : Int), (i : Int) + 1, av6, 2, cv6)]) j (i + 1)) := by
                have hg0 : Good w.heap.size (w6.setCell ⟨w1.heap.size + 1, 2, none⟩ (.slice av6 2 cv6)) (201 + (j : Int), (i : Int) + 1, av6, 2, cv6) := ⟨_, OwnG.mono HO7.out hszr, HERR.out⟩
                exact GoodL.snoc (HGD.out.keep hk8) (hg0.keep hk8)
              have hlq : (qs ++ [((201 : Int) + (j : Int), (i : Int) + 1, av6, 2, cv6)]).length ≤ 3 * j + (i + 1) := by rw [List.length_append]; simp; omega
              have HLQ := Lib.hid hlq
              clear ho8 hb8 hk8 hlq HOUT HGD HBW hszw hszr ho hgd hb
              go_wp2
              go_roundw
              case rel => exact ⟨i + 1, tt + 2, _, by omega, by go_num, by go_num, by omega, HLQ.out, HO8, HG8, HB8⟩
              case measure => simp [intOf]; omega
          · have n0 : ((dd : Int) == 1) = false := beq_f (by omega)
            clear hd1
            go_wp2
            rw [HW4.out]
            go_quiet (first | (go_at_call 37; exact HAQ4.out _) | (go_at_call 58; exact HDQ4.out _))
            obtain ⟨w5, hw5⟩ : ∃ w5, w4.drewN nq = w5 := ⟨_, rfl⟩
            have HX5 := Lib.hid (show CBox (w4.drewN nq) w3.heap.size k2 s2 t2 v2 a2 b2 c2 from HX4.out)
            have HB5 := Lib.hid (show Below wr.heap.size wr (w4.drewN nq) from HB4.out.trans (below_drewN _ _ _))
            have HO5 := Lib.hid (HO4.out.drewN nq)
            have HP5 := Lib.hid (show OP (w4.drewN nq) (w1.heap.size + 1) (201 + (j : Int)) ((i : Int) + 1) (.slice (some ⟨w1.heap.size, 0, none⟩) 1 1) from HP4.out)
            clear x0 x1 x2 x3 x4 x5 x6 o0 o1 o2 g0 g1 g2 y0 y1 y2 y3 y4 y5 y6 hj0 HX4 HB4 HO4 HP4 HBW4 HAQ4 HDQ4
            rw [hw5] at HX5 HB5 HO5 HP5 ⊢
            clear hw5
            obtain ⟨o0, o1, o2, g0, g1, g2⟩ := HP5.out.cells
            have HERR := Lib.hid (errP_list (j := j) (i := i) (cs := [(k1, s1, t1, v1, a1, b1, c1)]) hj2 hi2 (by simp) (by simp) (errS_one HE1.out))
            have HOUT := Lib.hid (ho.out.below HB5.out)
            have HGD := Lib.hid (hgd.out.below HB5.out)
            have HBW := Lib.hid (bnext hb.out HB5.out)
            have hszw := HBW.out.size
            have hszr := hb.out.size
            have hqb : qs.length ≤ 1073741824 := by omega
            go_wp2_with (at_builtin; refine wp_appG1' proE (201 + (j : Int), (i : Int) + 1, (some (⟨w1.heap.size, 0, none⟩ : Addr)), 1, 1) _ rfl rfl _ _ rfl rfl HOUT.out rfl hqb hszw ?_)
            intro v8 w8 ho8 hb8 hk8
            have HO8 := Lib.hid ho8
            have HB8 := Lib.hid (HBW.out.trans hb8)
            have HG8 : Hid (GoodL w.heap.size w8 (qs ++ [(201 + (j : Int), (i : Int) + 1, (some (⟨w1.heap.size, 0, none⟩ : Addr)), 1, 1)]) j (i + 1)) := by
              have hg0 : Good w.heap.size w5 (201 + (j : Int), (i : Int) + 1, (some (⟨w1.heap.size, 0, none⟩ : Addr)), 1, 1) := ⟨_, OwnG.mono HO5.out hszr, HERR.out⟩
              exact GoodL.snoc (HGD.out.keep hk8) (hg0.keep hk8)
            have hlq : (qs ++ [((201 : Int) + (j : Int), (i : Int) + 1, (some (⟨w1.heap.size, 0, none⟩ : Addr)), 1, 1)]).length ≤ 3 * j + (i + 1) := by rw [List.length_append]; simp; omega
            have HLQ := Lib.hid hlq
            clear ho8 hb8 hk8 hlq HOUT HGD HBW hszw hszr ho hgd hb
            go_wp2
            go_roundw
            case rel => exact ⟨i + 1, tt + 2, _, by omega, by go_num, by go_num, by omega, HLQ.out, HO8, HG8, HB8⟩
            case measure => simp [intOf]; omega
        · have hqi : ¬ (i : Int) < (d : Int) := by omega
          go_wp2_with fail
          refine (HA.out _ hb.out).mono ?_
          rintro e w1 ⟨rfl, rfl⟩
          go_wp2_with fail
          refine (HD.out _).mono ?_
          rintro e w1 ⟨rfl, rfl⟩
          go_wp2
          go_roundw
          case rel => exact ⟨j + 1, tt, qs, by omega, by go_num, rfl, by omega, by omega, ho, hgd.out.next, hb⟩
          case measure => simp [intOf]; omega
    · have hqj : ¬ (j : Int) < 3 := by omega
      obtain ⟨fs, hfs, hok⟩ := good_ok hgd.out.1 hgd.out.2.1
      have HRD := Lib.hid (show RdF wr _ fs from ⟨qs, ho.out.rd, hfs⟩)
      have HOK := Lib.hid (show CM.Ok fs from hok)
      clear hfs hok
      go_wp2
      go_ret
      exact ⟨_, rfl, fs, HRD.out, HOK.out, hb.out⟩

end Go.Proofs.Yteeegpojfbgkfaa
