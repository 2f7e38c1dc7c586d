/-
  The calls of update.Compare, Before, slices.Equal at effects, update.Equal. Conditions: the effects read.
  The calls of update.encodeEffect and update.Append: the bytes of P11.4. Conditions: the bytes and the effects read; the update is valid.
-/
import Derived.StillTailTactics
import Derived.Test.YtdfablboenfblaaDoorQKD
import Derived.Test.YtdfablboenfblaaDoorQUR
import Derived.Test.YtdfablboenfblaaDoorQValApp
import Derived.Test.YtdfablboenfblaaDoorQKO
import Derived.Test.YtdfablboenfblaaDoorQUKit
namespace Go.Proofs.YtdfablboenfblaaDoor
open Go.RowKit
open UM (Ef)

namespace UM
theorem cmpU_or (c q d r : Int) : (if cmpI c d ≠ 0 then cmpI c d else cmpI q r) = cmpU c q d r := by
  unfold cmpI cmpU; (repeat' split) <;> omega
theorem cmpU_zeroC {c q d r : Int} : cmpU c q d r = 0 ↔ c = d ∧ q = r := by
  unfold cmpU; (repeat' split) <;> omega
end UM

/-- The two boxes of two updates. -/
structure Box2 (w w1 : World) (c q t d r y : Int) (u v : Value) : Prop where
  eq : (w.alloc (.cells #[.int .i64 c, .int .i64 q, .int .i64 t, u] 43)).alloc (.cells #[.int .i64 d, .int .i64 r, .int .i64 y, v] 43) = w1
  a : OU w1 w.heap.size c q t u
  b : OU w1 (w.heap.size + 1) d r y v
  below : Below w.heap.size w w1
theorem box2 (w : World) (c q t d r y : Int) (u v : Value) : ∃ w1, Box2 w w1 c q t d r y u v := by
  have b1 := below_fresh w (.cells #[.int .i64 c, .int .i64 q, .int .i64 t, u] 43)
  have o1 := OU.fresh w c q t u
  have z1 := World.size_alloc w (.cells #[.int .i64 c, .int .i64 q, .int .i64 t, u] 43)
  have b2 := below_fresh (w.alloc (.cells #[.int .i64 c, .int .i64 q, .int .i64 t, u] 43)) (.cells #[.int .i64 d, .int .i64 r, .int .i64 y, v] 43)
  have o2 := OU.fresh (w.alloc (.cells #[.int .i64 c, .int .i64 q, .int .i64 t, u] 43)) d r y v
  rw [z1] at o2
  exact ⟨_, rfl, o1.below b2, o2, bnext b1 b2⟩

set_option maxRecDepth 100000 in
set_option maxHeartbeats 1000000 in
theorem uCompare (c q t : Int) (u : Value) (d r y : Int) (v : Value) (w : World) (hu : ∃ a l k, u = .slice a l k) (hv : ∃ a l k, v = .slice a l k) :
    Calls Tryd.prog 73 #[uv c q t u, uv d r y v] w fun e w' => e = .returned (.int .i64 (UM.cmpU c q d r)) ∧ Below w.heap.size w w' := by
  obtain ⟨ua, ul, uc, rfl⟩ := hu
  obtain ⟨va, vl, vc, rfl⟩ := hv
  obtain ⟨w1, H⟩ := box2 w c q t d r y (.slice ua ul uc) (.slice va vl vc)
  have HW := Lib.hid H.eq
  have HB := Lib.hid H.below
  obtain ⟨p0, p1, p2, p3, _⟩ := H.a.cells
  obtain ⟨q0, q1, q2, q3, _⟩ := H.b.cells
  have H1 := Lib.hid (cCmp c d)
  have H2 := Lib.hid (cCmp q r)
  have e := Lib.hid (UM.cmpU_or c q d r)
  generalize cmpI c d = X at H1 e
  generalize cmpI q r = Y at H2 e
  generalize UM.cmpU c q d r = R at e
  clear H
  go_enter Tryd.func73, Tryd.ntmps73
  go_upto_region 1 with fail
  rw [HW.out]
  refine wp_region_still_tail 10 (by kernel_rfl) (by kernel_rfl) ?_
  simp only [List.take_succ_cons, List.take_zero, List.drop_succ_cons, List.drop_zero]
  iterate 4 still_step
  still_call (H1.out _)
  iterate 4 still_step
  still_call (H2.out _)
  refine wpStill_nil ?_
  change wpList _ _ _ _ _ w1.drew
  have HB2 := Lib.hid (HB.out.drew)
  clear p0 p1 p2 p3 q0 q1 q2 q3
  generalize w1.drew = w2 at HB2 ⊢
  have hb3 := below_fresh w2 (.cells #[.int .i64 X, .int .i64 Y] 3)
  go_wp2_with fail
  refine (cOr w2.heap.size X Y _ (by simp [World.cell?_alloc_new]) (by simp [World.cell?_alloc_new])).mono ?_
  rintro e w4 ⟨rfl, rfl⟩
  rw [e.out]
  go_wp2
  go_ret
  exact ⟨rfl, bnext HB2.out hb3⟩

set_option maxRecDepth 100000 in
set_option maxHeartbeats 1000000 in
theorem uEqualS (va vb : Value) (xs ys : List Ef) (w : World) (ha : RdEf w va xs) (hb : RdEf w vb ys) :
    Calls Tryd.prog 80 #[va, vb] w fun e w' => e = .returned (.bool (decide (xs = ys))) ∧ Below w.heap.size w w' := by
  obtain ⟨ad, c, rfl, hc, hl⟩ := ha.shape
  obtain ⟨bd, d, rfl, hd, hld⟩ := hb.shape
  have HA := Lib.hid ha
  have HB := Lib.hid hb
  clear ha hb
  by_cases hlen : xs.length = ys.length
  · obtain ⟨R, hR⟩ : ∃ R, R = decide (xs = ys) := ⟨_, rfl⟩
    rw [← hR]
    have HR := Lib.hid hR
    clear hR
    have HL := Lib.hid hlen
    have hq0 : ((xs.length : Int) != (ys.length : Int)) = false := by simp; omega
    rw [← hlen] at hq0 ⊢
    clear hlen
    have hm : Tryd.prog.eqGuardType Tryd.prog.depth 62 = false := by kernel_rfl
    go_enter Tryd.func80, Tryd.ntmps80
    go_wp2
    go_loopw [13] (fun i wr => ∃ k : Nat, k ≤ xs.length ∧ i = .int .i64 k ∧ Below w.heap.size w wr ∧ Hid (R = decide (xs.drop k = ys.drop k))) (fun i _ => xs.length - (intOf i).toNat)
    case atStart => exact ⟨0, Nat.zero_le _, rfl, Below.refl _ _, HR.out⟩
    case round =>
      obtain ⟨k, hk, rfl, hbl, he⟩ := hrel
      by_cases hlt : k < xs.length
      · have hlt2 : k < ys.length := by rw [← HL.out]; exact hlt
        have hatx := List.getElem?_eq_getElem hlt
        have haty := List.getElem?_eq_getElem hlt2
        have hdx := Lib.hid (drop_get hlt)
        have hdy := Lib.hid (drop_get hlt2)
        generalize xs[k] = y at hdx hatx
        obtain ⟨k', o', f', n', s'⟩ := y
        generalize ys[k] = z at hdy haty
        obtain ⟨kz, oz, fz, nz, sz⟩ := z
        obtain ⟨b, o, hi, hb, d0, d1, d2, d3, d4⟩ := atEf (HA.out.below hbl) k _ _ _ _ _ hatx
        obtain ⟨bb, oo, hi2, hb2, f0, f1, f2, f3, f4⟩ := atEf (HB.out.below hbl) k _ _ _ _ _ haty
        rw [← HL.out] at hi2
        have hq : (k : Int) < (xs.length : Int) := by omega
        clear HR hatx haty
        have hBB : ∃ B, B = decide ((k', o', f', n', s') = (kz, oz, fz, nz, sz)) := ⟨_, rfl⟩
        obtain ⟨B, hB⟩ := hBB
        have hneq := fun w' => neq_ev k' o' f' n' s' kz oz fz nz sz w'
        rw [← hB] at hneq
        have e0 := Lib.hid (show R = (B && decide (xs.drop (k + 1) = ys.drop (k + 1))) by
          rw [he.out, hdx.out, hdy.out, hB]
          rw [← Bool.decide_and]
          exact decide_eq_decide.2 List.cons_eq_cons)
        clear he hdx hdy hB
        cases B
        · have e2 := Lib.hid (e0.out.trans (Bool.false_and _))
          clear e0
          go_wp2
          go_quiet (fail)
          go_wp2
          go_ret
          rw [e2.out]
          exact ⟨rfl, hbl.trans (below_drewN _ _ _)⟩
        · have e2 := Lib.hid (e0.out.trans (Bool.true_and _))
          clear e0
          go_wp2
          go_quiet (fail)
          go_wp2
          go_roundw
          case rel => exact ⟨k + 1, by omega, by go_num, hbl.trans (below_drewN _ _ _), e2⟩
          case measure => simp [intOf]; omega
      · have hq : ¬ ((k : Int) < (xs.length : Int)) := by omega
        have e2 := Lib.hid (show R = true by rw [he.out, List.drop_of_length_le (by omega), List.drop_of_length_le (by rw [← HL.out]; omega)]; rfl)
        clear he HR
        go_wp2
        go_ret
        rw [e2.out]
        exact ⟨rfl, hbl⟩
  · have e2 := Lib.hid (show decide (xs = ys) = false from decide_eq_false fun h => hlen (by rw [h]))
    have hq0 : ((xs.length : Int) != (ys.length : Int)) = true := by simp; omega
    clear hlen HA HB
    go_enter Tryd.func80, Tryd.ntmps80
    go_wp2
    go_ret
    rw [e2.out]
    exact ⟨rfl, Below.refl _ _⟩

set_option maxRecDepth 100000 in
set_option maxHeartbeats 1000000 in
theorem uEqual (c q t : Int) (u : Value) (es : List Ef) (d r y : Int) (v : Value) (fs : List Ef) (w : World) (hx : RdEf w u es) (hy : RdEf w v fs) :
    Calls Tryd.prog 53 #[uv c q t u, uv d r y v] w fun e w' => e = .returned (.bool (UM.eqU c q t es d r y fs)) ∧ Below w.heap.size w w' := by
  obtain ⟨ua, uc, rfl, _, _⟩ := hx.shape
  obtain ⟨va, vc, rfl, _, _⟩ := hy.shape
  obtain ⟨w1, H⟩ := box2 w c q t d r y (.slice ua es.length uc) (.slice va fs.length vc)
  have HW := Lib.hid H.eq
  have HB := Lib.hid H.below
  have HX := Lib.hid H.a
  have HY := Lib.hid H.b
  have HC := Lib.hid (uCompare c q t (.slice ua es.length uc) d r y (.slice va fs.length vc) w1 ⟨_, _, _, rfl⟩ ⟨_, _, _, rfl⟩)
  have HS := Lib.hid (fun w' (hb : Below w1.heap.size w1 w') => uEqualS _ _ es fs w' ((hx.below HB.out).below hb) ((hy.below HB.out).below hb))
  obtain ⟨p0, p1, p2, p3, _⟩ := H.a.cells
  obtain ⟨q0, q1, q2, q3, _⟩ := H.b.cells
  obtain ⟨R, hR⟩ : ∃ R, R = UM.eqU c q t es d r y fs := ⟨_, rfl⟩
  rw [← hR]
  unfold UM.eqU at hR
  have hz := @UM.cmpU_zeroC c q d r
  generalize UM.cmpU c q d r = X at HC hz
  clear H hx hy
  by_cases hX : X = 0
  case neg =>
    have e := Lib.hid (show R = false by rw [hR]; exact decide_eq_false (fun h => hX (hz.2 ⟨h.1, h.2.1⟩)))
    have hne : (X == 0) = false := beq_f hX
    clear hR hz hX HS HX HY
    go_enter Tryd.func53, Tryd.ntmps53
    go_upto_region 1 with fail
    rw [HW.out]
    clear HW
    go_wp2_with fail
    refine HC.out.mono ?_
    rintro e w2 ⟨rfl, hb2⟩
    have HB2 := Lib.hid (bnext HB.out hb2)
    clear p0 p1 p2 p3 q0 q1 q2 q3 hb2
    go_wp2
    go_ret
    rw [e.out]
    exact ⟨rfl, HB2.out⟩
  have hX2 := hz.1 hX
  subst hX
  clear hz
  by_cases ht : t = y
  case neg =>
    have e := Lib.hid (show R = false by rw [hR]; exact decide_eq_false (fun h => ht h.2.2.1))
    have hne : (t == y) = false := beq_f ht
    clear hR ht hX2 HS
    go_enter Tryd.func53, Tryd.ntmps53
    go_upto_region 1 with fail
    rw [HW.out]
    clear HW
    go_wp2_with fail
    refine HC.out.mono ?_
    rintro e w2 ⟨rfl, hb2⟩
    have HB2 := Lib.hid (bnext HB.out hb2)
    clear p0 p1 p2 p3 q0 q1 q2 q3
    obtain ⟨p0, p1, p2, p3, _⟩ := (HX.out.below hb2).cells
    obtain ⟨q0, q1, q2, q3, _⟩ := (HY.out.below hb2).cells
    clear hb2
    go_wp2
    go_ret
    rw [e.out]
    exact ⟨rfl, HB2.out⟩
  have e := Lib.hid (show R = decide (es = fs) by rw [hR]; exact decide_eq_decide.2 ⟨fun h => h.2.2.2, fun h => ⟨hX2.1, hX2.2, ht, h⟩⟩)
  have hne : (t == y) = true := beq_t ht
  rw [← e.out] at HS
  clear hR ht hX2
  go_enter Tryd.func53, Tryd.ntmps53
  go_upto_region 1 with fail
  rw [HW.out]
  clear HW
  go_wp2_with fail
  refine HC.out.mono ?_
  rintro e w2 ⟨rfl, hb2⟩
  have HB2 := Lib.hid (bnext HB.out hb2)
  have HE := Lib.hid (HS.out _ hb2)
  clear p0 p1 p2 p3 q0 q1 q2 q3
  obtain ⟨p0, p1, p2, p3, _⟩ := (HX.out.below hb2).cells
  obtain ⟨q0, q1, q2, q3, _⟩ := (HY.out.below hb2).cells
  clear hb2 HS
  go_wp2_with fail
  refine HE.out.mono ?_
  rintro e w3 ⟨rfl, hb3⟩
  go_wp2
  go_ret
  exact ⟨rfl, bnext HB2.out hb3⟩

end Go.Proofs.YtdfablboenfblaaDoor

namespace Go.Proofs.YtdfablboenfblaaDoor
open Go.RowKit
open UM (Ef)
open WM (enc dec zig zag Bytes)

set_option maxRecDepth 100000 in
set_option maxHeartbeats 2000000 in
theorem cEncEff (k : Int) (o f : ByteArray) (n : Int) (s : ByteArray) (w : World) (he : UM.errE (k, o, f, n, s) = 0) (hr : UM.in64 (k, o, f, n, s)) :
    Calls Tryd.prog 101 #[ev k o f n s] w fun e w' => ∃ v', e = .returned v' ∧ Own w.heap.size w' v' (UM.encE (k, o, f, n, s)) ∧ Below w.heap.size w w' := by
  obtain ⟨h1, h2, h3, h4, h5⟩ := UM.errE_ok he
  obtain ⟨m, rfl⟩ := Int.eq_ofNat_of_zero_le (show 0 ≤ k by omega)
  have hm : m ≤ 5 := by omega
  have hub : IntKind.u64.wrap (m : Int) = (m : Int) := IntWalk.u64_in _ (by omega)
  have hb := below_fresh w (.cells #[.int .i64 (m : Int), .string o, .string f, .int .i64 n, .string s] 62)
  have hx := OE.fresh w (.int .i64 (m : Int)) (.string o) (.string f) (.int .i64 n) (.string s)
  obtain ⟨w1, hw1⟩ : ∃ z, w.alloc (.cells #[.int .i64 (m : Int), .string o, .string f, .int .i64 n, .string s] 62) = z := ⟨_, rfl⟩
  rw [hw1] at hb hx
  have HW := Lib.hid hw1
  have HB := Lib.hid hb
  have HX := Lib.hid hx
  have l0 := WM.enc_len10 m (by omega)
  have l1 := WM.enc_len10 o.size (by omega)
  have l2 := WM.enc_len10 f.size (by omega)
  have l3 := WM.enc_len10 (zig n) (WM.zig_lt n hr.1 hr.2)
  have l4 : (nums o).length = o.size := nums_length o
  have l5 : (nums f).length = f.size := nums_length f
  have H0 := Lib.hid (fun w' => wAppendUint (.slice none 0 0) [] m w' (Rd.nil w') (by simp) (by omega))
  have H1 := Lib.hid (fun w' v' (hh : Rd w' v' ([] ++ enc m)) => wAppendString v' _ o w' hh (by simp only [List.nil_append]; omega) (by omega))
  have H2 := Lib.hid (fun w' v' (hh : Rd w' v' ([] ++ enc m ++ enc o.size ++ nums o)) => wAppendString v' _ f w' hh (by simp only [List.nil_append, List.length_append]; omega) (by omega))
  have H3 := Lib.hid (fun w' v' (hh : Rd w' v' ([] ++ enc m ++ enc o.size ++ nums o ++ enc f.size ++ nums f)) => wAppendInt v' _ n w' hh (by simp only [List.nil_append, List.length_append]; omega) hr.1 hr.2)
  have H4 := Lib.hid (fun w' v' (hh : Rd w' v' ([] ++ enc m ++ enc o.size ++ nums o ++ enc f.size ++ nums f ++ enc (zig n))) => wAppendString v' _ s w' hh (by simp only [List.nil_append, List.length_append]; omega) (by omega))
  have HE := Lib.hid (show [] ++ enc m ++ enc o.size ++ nums o ++ enc f.size ++ nums f ++ enc (zig n) ++ enc s.size ++ nums s = UM.encE ((m : Int), o, f, n, s) by
    show _ = JM.encN [(m : Int)] ++ (UM.encS o ++ UM.encS f) ++ (enc (zig n) ++ UM.encS s)
    unfold UM.encS
    rw [JM.encN_cons, show JM.encN [] = [] from rfl, Int.toNat_natCast]
    simp only [List.nil_append, List.append_nil, List.append_assoc])
  obtain ⟨c0, c1, c2, c3, c4, _⟩ := hx.cells
  clear hw1 hb hx he hr h1 h2 h3 h4 h5 l0 l1 l2 l3 l4 l5 hm
  go_enter Tryd.func101, Tryd.ntmps101
  go_upto_region 1 with fail
  rw [HW.out]
  clear HW
  go_wp2_with fail
  refine (H0.out _).mono ?_
  rintro e w2 ⟨v2, rfl, ho2, hb2⟩
  have HB2 := Lib.hid (bnext HB.out hb2)
  have HX2 := Lib.hid (HX.out.below hb2)
  have HC := Lib.hid (H1.out _ _ ho2.rd)
  obtain ⟨a2, n2, k2, hv2⟩ : ∃ a l c, v2 = .slice a l c := by obtain ⟨a, c, h, _⟩ := ho2.rd.shape; exact ⟨a, _, c, h⟩
  subst hv2
  clear ho2 hb2 c0 c1 c2 c3 c4 HX H0 H1 HB hub
  obtain ⟨c0, c1, c2, c3, c4, _⟩ := HX2.out.cells
  go_wp2_with fail
  refine HC.out.mono ?_
  rintro e w3 ⟨v3, rfl, ho3, hb3⟩
  have HB3 := Lib.hid (bnext HB2.out hb3)
  have HX3 := Lib.hid (HX2.out.below hb3)
  have HD := Lib.hid (H2.out _ _ ho3.rd)
  obtain ⟨a3, n3, k3, hv3⟩ : ∃ a l c, v3 = .slice a l c := by obtain ⟨a, c, h, _⟩ := ho3.rd.shape; exact ⟨a, _, c, h⟩
  subst hv3
  clear ho3 hb3 c0 c1 c2 c3 c4 HX2 HC H2 HB2
  obtain ⟨c0, c1, c2, c3, c4, _⟩ := HX3.out.cells
  go_wp2_with fail
  refine HD.out.mono ?_
  rintro e w4 ⟨v4, rfl, ho4, hb4⟩
  have HB4 := Lib.hid (bnext HB3.out hb4)
  have HX4 := Lib.hid (HX3.out.below hb4)
  have HF := Lib.hid (H3.out _ _ ho4.rd)
  obtain ⟨a4, n4, k4, hv4⟩ : ∃ a l c, v4 = .slice a l c := by obtain ⟨a, c, h, _⟩ := ho4.rd.shape; exact ⟨a, _, c, h⟩
  subst hv4
  clear ho4 hb4 c0 c1 c2 c3 c4 HX3 HD H3 HB3
  obtain ⟨c0, c1, c2, c3, c4, _⟩ := HX4.out.cells
  go_wp2_with fail
  refine HF.out.mono ?_
  rintro e w5 ⟨v5, rfl, ho5, hb5⟩
  have HB5 := Lib.hid (bnext HB4.out hb5)
  have HX5 := Lib.hid (HX4.out.below hb5)
  have HG := Lib.hid (H4.out _ _ ho5.rd)
  obtain ⟨a5, n5, k5, hv5⟩ : ∃ a l c, v5 = .slice a l c := by obtain ⟨a, c, h, _⟩ := ho5.rd.shape; exact ⟨a, _, c, h⟩
  subst hv5
  clear ho5 hb5 c0 c1 c2 c3 c4 HX4 HF H4 HB4
  obtain ⟨c0, c1, c2, c3, c4, _⟩ := HX5.out.cells
  go_wp2_with fail
  refine HG.out.mono ?_
  rintro e w6 ⟨v6, rfl, ho6, hb6⟩
  rw [HE.out] at ho6
  have HO := Lib.hid (ho6.mono HB5.out.size)
  have HB6 := Lib.hid (bnext HB5.out hb6)
  clear ho6 hb6 HG
  go_wp2
  go_ret
  exact ⟨_, rfl, HO.out, HB6.out⟩

set_option maxRecDepth 100000 in
set_option maxHeartbeats 4000000 in
theorem cAppendU (v : Value) (bs : List Int) (c q t : Int) (u : Value) (es : List Ef) (w : World) (h : Rd w v bs) (hu : RdEf w u es) (he : UM.errU c q t es = 0) (hr : ∀ e ∈ es, UM.in64 e) (hlen : bs.length ≤ 1073741824) :
    Calls Tryd.prog 75 #[v, uv c q t u] w fun e w' => ∃ v', e = .returned v' ∧ Rd w' v' (bs ++ UM.encU c q t es) ∧ Below w.heap.size w w' := by
  obtain ⟨ad, cp, rfl, hc, hl⟩ := hu.shape
  obtain ⟨e1, e2, e3, e4, e5, e6, e7, e8⟩ := UM.errU_ok he
  have e1' := UM.isCl_ok e1
  have hsm : ∀ x ∈ [c, q, t, (es.length : Int)], JM.small x := by
    intro x hx
    simp only [List.mem_cons, List.not_mem_nil, or_false] at hx
    unfold JM.small
    rcases hx with rfl | rfl | rfl | rfl <;> omega
  have hb0 := below_fresh w (.cells #[.int .i64 c, .int .i64 q, .int .i64 t, .slice ad es.length cp] 43)
  have hx0 := heap_alloc_new w (.cells #[.int .i64 c, .int .i64 q, .int .i64 t, .slice ad es.length cp] 43)
  have HC0 := Lib.hid (hu.below hb0)
  have HB0 := Lib.hid hb0
  have hsz := World.size_alloc w (.cells #[.int .i64 c, .int .i64 q, .int .i64 t, .slice ad es.length cp] 43)
  have hv0 := h.below hb0
  generalize hw0 : w.alloc (.cells #[.int .i64 c, .int .i64 q, .int .i64 t, .slice ad es.length cp] 43) = w0 at hx0 HC0 HB0 hsz hv0
  have HW0 := Lib.hid hw0
  have HX0 := Lib.hid hx0
  have hf := below_fresh w0 (.cells #[.int .i64 c, .int .i64 q, .int .i64 t, .int .i64 (es.length : Int)] 3)
  have hg : RdI (w0.alloc (.cells #[.int .i64 c, .int .i64 q, .int .i64 t, .int .i64 (es.length : Int)] 3)) (.slice (some ⟨w.heap.size + 1, 0, none⟩) 4 4) [c, q, t, (es.length : Int)] := by
    rw [← hsz]; exact (ownG_fresh hlI 3 w0 [c, q, t, (es.length : Int)] (by simp [maxLen])).rd
  have HN := Lib.hid (cAppendNumbers v _ bs _ _ (hv0.below hf) hg hsm (by simp) (by omega))
  have hh := JM.encN_len _ hsm
  have hall : ∀ k, k ≤ es.length → (bs ++ JM.encN [c, q, t, (es.length : Int)] ++ UM.encEs (es.take k)).length ≤ 2147483648 := by
    intro k hk
    have h1 := UM.encEs_len (es.take k) (fun y hy => e8 y (List.mem_of_mem_take hy)) (fun y hy => hr y (List.mem_of_mem_take hy))
    rw [List.length_take] at h1
    rw [List.length_append, List.length_append]
    simp only [List.length_cons, List.length_nil] at hh
    omega
  have HALL := Lib.hid hall
  have HE8 := Lib.hid e8
  have HR := Lib.hid hr
  have HF := Lib.hid hf
  obtain ⟨p0, p1, p2, p3⟩ := ubox hx0
  clear h hu he hsm hb0 hw0 hx0 hlen hh hall hsz hv0 hf hg hr e1 e2 e3 e4 e5 e6 e1' e8
  go_enter Tryd.func75, Tryd.ntmps75
  go_wp2_with fail
  rw [HW0.out]
  refine HN.out.mono ?_
  rintro e w1 ⟨v1, rfl, ho1, hb1⟩
  have HB1 := Lib.hid (bnext HF.out hb1)
  have HO1 := Lib.hid (ho1.mono HF.out.size)
  obtain ⟨p0', p1', p2', p3'⟩ := ubox (below_block HX0.out HB1.out)
  clear p0 p1 p2 p3 HN ho1 hb1 HF
  go_wp2
  go_loopw [5, 23] (fun u i wr => ∃ k : Nat, k ≤ es.length ∧ i = .int .i64 k ∧ Hid (Own w0.heap.size wr u (bs ++ JM.encN [c, q, t, (es.length : Int)] ++ UM.encEs (es.take k))) ∧ Hid (Below w0.heap.size w0 wr)) (fun _ i _ => es.length - (intOf i).toNat)
  case atStart => exact ⟨0, Nat.zero_le _, rfl, (by show Own _ _ _ _; rw [List.take_zero, show UM.encEs [] = [] from rfl, List.append_nil]; exact HO1.out), HB1.out⟩
  case round =>
    obtain ⟨k, hk, rfl, ho, hbl⟩ := hrel
    obtain ⟨a5, l5, c5, hv5⟩ : ∃ a l c, u5 = .slice a l c := by obtain ⟨a, c, h, _⟩ := ho.out.rd.shape; exact ⟨a, _, c, h⟩
    subst hv5
    by_cases hlt : k < es.length
    · have hq : (k : Int) < (es.length : Int) := by omega
      have hat := List.getElem?_eq_getElem hlt
      have hok := HE8.out es[k] (List.getElem_mem hlt)
      have h64 := HR.out es[k] (List.getElem_mem hlt)
      generalize es[k] = y at hat hok h64
      obtain ⟨k', o', f', n', s'⟩ := y
      obtain ⟨b, o, hi, hbb, d0, d1, d2, d3, d4⟩ := atEf (HC0.out.below hbl.out) k _ _ _ _ _ hat
      have HSN := Lib.hid (UM.encEs_snoc hat)
      have HAL := Lib.hid (HALL.out k hk)
      have HEL := Lib.hid (UM.encE_len hok h64)
      have hbn := below_fresh wr (.cells #[.int .i64 k', .string o', .string f', .int .i64 n', .string s'] 62)
      obtain ⟨x0, x1, x2, x3, x4, _⟩ := (OE.fresh wr (.int .i64 k') (.string o') (.string f') (.int .i64 n') (.string s')).cells
      have HE := Lib.hid (cEncEff k' o' f' n' s' (wr.alloc (.cells #[.int .i64 k', .string o', .string f', .int .i64 n', .string s'] 62)) hok h64)
      have HBN := Lib.hid (bnext hbl.out hbn)
      have HON := Lib.hid (ho.out.below hbn)
      clear hat hok h64 hbn hbl ho
      go_wp2_with fail
      refine HE.out.mono ?_
      rintro e w4 ⟨v4, rfl, ho4, hb4⟩
      have HO4 := Lib.hid (HON.out.below hb4)
      have HB4 := Lib.hid (bnext HBN.out hb4)
      have HR4 := Lib.hid ho4.rd
      obtain ⟨a6, c6, rfl, _⟩ := ho4.rd.shape
      have hsz := HB4.out.size
      clear x0 x1 x2 x3 x4 d0 d1 d2 d3 d4 hi hbb ho4 hb4 HE HBN HON
      go_wp2_with (at_builtin; refine wp_appS rfl _ _ rfl rfl HO4.out rfl HR4.out (by have := HAL.out; omega) (by have := HEL.out; omega) hsz ?_)
      intro v7 w7 ho7 hb7
      have HO7 := Lib.hid (show Own w0.heap.size w7 v7 (bs ++ JM.encN [c, q, t, (es.length : Int)] ++ UM.encEs (es.take (k + 1))) by rw [HSN.out]; simpa only [List.append_assoc] using ho7)
      have HB7 := Lib.hid (HB4.out.trans hb7)
      clear ho7 hb7 HO4 HB4 HR4 HSN HAL HEL
      go_wp2
      go_roundw
      case rel => exact ⟨k + 1, by omega, by go_num, HO7, HB7⟩
      case measure => simp [intOf]; omega
    · have hq : ¬ ((k : Int) < (es.length : Int)) := by omega
      obtain rfl : k = es.length := by omega
      have HO2 := Lib.hid (show Rd wr (.slice a5 l5 c5) (bs ++ UM.encU c q t es) by
        have := ho.out.rd
        rw [List.take_length, List.append_assoc] at this
        exact this)
      have HB2 := Lib.hid (bnext HB0.out hbl.out)
      clear ho hbl
      go_wp2
      go_ret
      exact ⟨_, rfl, HO2.out, HB2.out⟩

end Go.Proofs.YtdfablboenfblaaDoor
