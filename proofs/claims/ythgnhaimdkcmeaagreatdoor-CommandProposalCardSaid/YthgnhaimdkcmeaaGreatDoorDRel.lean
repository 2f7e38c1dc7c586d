/-
  The calls of command.weightVersion, isMember and relate: what DM.plc gives. Conditions: what came in reads; no version is negative.
-/
import Derived.Test.YthgnhaimdkcmeaaGreatDoorDPrs
namespace Go.Proofs.YthgnhaimdkcmeaaGreatDoor
open Go.RowKit Go.Joins
open JM (Chg)
open MM (Mem Ent Sm Tri)

theorem cContains (v : Value) (l : List Int) (x : Int) (w : World) (h : RdI w v l) :
    Calls Tryz.prog 36 #[v, .int .i64 x] w fun e w' => e = .returned (.bool (l.contains x)) ∧ Below w.heap.size w w' := by
  obtain ⟨a, c, rfl, hc, hl⟩ := h.shape
  by_cases h0 : 0 < l.length
  · obtain ⟨b, o, rfl, hb, hcell⟩ := h.plain h0
    refine (Any.slices_Contains_int Tryz.lContains b o l.length c l x w (Nat.le_refl _) (by omega) (fun j hj => ?_)).mono ?_
    · have := hcell j l[j] (List.getElem?_eq_getElem hj) 0 (.int .i64 l[j]) rfl
      rw [Nat.mul_one, Nat.add_zero] at this
      rw [this]; simp [List.getD, hj]
    · rintro e w' ⟨h1, rfl⟩
      rw [List.take_length] at h1
      exact ⟨h1, Below.refl _ _⟩
  · obtain rfl : l = [] := List.eq_nil_of_length_eq_zero (by omega)
    refine (Any.slices_Contains_int_empty Tryz.lContains a c x w).mono ?_
    rintro e w' ⟨h1, rfl⟩
    exact ⟨h1, Below.refl _ _⟩

set_option maxRecDepth 100000 in
set_option maxHeartbeats 2000000 in
theorem cWeightVersion (x y z : Value) (s : Sm) (sv : Int) (w : World) (h : RdW w z s.W) (hl : s.W.length ≤ 1000000) :
    Calls Tryz.prog 38 #[Go.Proofs.YthgnhaimdkcmeaaGreatDoor.sv x y z s.k s.c s.f s.v s.a s.n, .int .i64 sv] w fun e w' => e = .returned (.int .i64 (DM.wv s.W sv)) ∧ Below w.heap.size w w' := by
  obtain ⟨za, zc, rfl, _, _⟩ := h.shape
  generalize s.k = SK
  generalize s.c = SC
  generalize s.f = SF
  generalize s.v = SV
  generalize s.a = SA
  generalize s.n = SN
  generalize s.W = L at h hl ⊢
  obtain ⟨R, hR⟩ : ∃ R, R = DM.wv L sv := ⟨_, rfl⟩
  rw [← hR]
  have HR := Lib.hid (show R = DM.wv (L.drop 0) sv from hR)
  have hb0 := below_fresh w (.cells (s9 x y (.slice za L.length zc) SK SC SF SV SA SN) 37)
  have hx0 := heap_alloc_new w (.cells (s9 x y (.slice za L.length zc) SK SC SF SV SA SN) 37)
  have HH := Lib.hid (h.below hb0)
  obtain ⟨w1, hw1⟩ : ∃ w1, w.alloc (.cells (s9 x y (.slice za L.length zc) SK SC SF SV SA SN) 37) = w1 := ⟨_, rfl⟩
  rw [hw1] at hb0 hx0 HH
  obtain ⟨⟨s0, s1, s2, s3, s4, s5, s6, s7, s8⟩, _⟩ := row9_at hx0
  have HB0 := Lib.hid hb0
  have HW := Lib.hid hw1
  have hll : (L.length : Int) ≤ 1000000 := by omega
  clear h hl hR hb0 hx0 hw1
  go_enter Tryz.func38, Tryz.ntmps38
  go_upto_region 1 with fail
  rw [HW.out]
  go_wp2
  go_loopw [10] (fun i wr => ∃ j : Nat, j ≤ L.length ∧ i = .int .i64 j ∧ Hid (Below w1.heap.size w1 wr) ∧ Hid (R = DM.wv (L.drop j) sv)) (fun i _ => L.length - (intOf i).toNat)
  case atStart => exact ⟨0, Nat.zero_le _, rfl, Lib.hid (Below.refl _ _), HR⟩
  case round =>
    obtain ⟨j, hj, rfl, hb, he⟩ := hrel
    clear HR s0 s1 s2 s3 s4 s5 s6 s7 s8
    by_cases hlt : j < L.length
    · have hq : (j : Int) < (L.length : Int) := by omega
      have hdx := Lib.hid (drop_get hlt)
      have hat := List.getElem?_eq_getElem hlt
      generalize L[j] = e at hdx hat
      obtain ⟨es, et, ev, ea, en⟩ := e
      obtain ⟨b, o, hi, hbb, d0, d1, d2, d3, d4⟩ := atW (HH.out.below hb.out) j _ _ _ _ _ hat
      have hfr := below_fresh wr (.cells #[.int .i64 es, .int .i64 et, .int .i64 ev, .int .i64 ea, .int .i64 en] 51)
      have HFR := Lib.hid (bnext hb.out hfr)
      have HFW := Lib.hid (bnext HB0.out (bnext hb.out hfr))
      have e2 := Lib.hid (show R = if es = sv then ev else DM.wv (L.drop (j + 1)) sv by rw [he.out, hdx.out]; rfl)
      clear he hdx hat hfr
      by_cases hes : es = sv
      · have hb1 : (es == sv) = true := by simpa using hes
        have e3 := Lib.hid (show R = ev by rw [e2.out, if_pos hes])
        clear hes e2
        go_wp2
        go_ret
        exact ⟨ret_int e3.out.symm, HFW.out⟩
      · have hb1 : (es == sv) = false := by simpa using hes
        have e3 := Lib.hid (show R = DM.wv (L.drop (j + 1)) sv by rw [e2.out, if_neg hes])
        clear hes e2
        go_wp2
        go_roundw
        case rel => exact ⟨j + 1, by omega, by go_num, HFR, e3⟩
        case measure => simp [intOf]; omega
    · have hq : ¬ ((j : Int) < (L.length : Int)) := by omega
      have e2 := Lib.hid (show R = 0 by rw [he.out, List.drop_of_length_le (by omega)]; rfl)
      have HFW := Lib.hid (bnext HB0.out hb.out)
      clear he
      go_wp2
      go_ret
      exact ⟨ret_int e2.out.symm, HFW.out⟩

set_option maxRecDepth 100000 in
set_option maxHeartbeats 2000000 in
theorem cIsMember (x y z : Value) (s : Sm) (sv : Int) (w : World) (hx : RdI w x s.J) (hy : RdI w y s.R) :
    Calls Tryz.prog 39 #[Go.Proofs.YthgnhaimdkcmeaaGreatDoor.sv x y z s.k s.c s.f s.v s.a s.n, .int .i64 sv] w fun e w' => e = .returned (.bool (DM.mbr s sv)) ∧ Below w.heap.size w w' := by
  obtain ⟨xa, xc, rfl, _, _⟩ := hx.shape
  obtain ⟨ya, yc, rfl, _, _⟩ := hy.shape
  have hM : DM.mbr s sv = (s.J.contains sv && !s.R.contains sv) := rfl
  rw [hM]
  have hb0 := below_fresh w (.cells (s9 (.slice xa s.J.length xc) (.slice ya s.R.length yc) z s.k s.c s.f s.v s.a s.n) 37)
  have hx0 := heap_alloc_new w (.cells (s9 (.slice xa s.J.length xc) (.slice ya s.R.length yc) z s.k s.c s.f s.v s.a s.n) 37)
  obtain ⟨w1, hw1⟩ : ∃ w1, w.alloc (.cells (s9 (.slice xa s.J.length xc) (.slice ya s.R.length yc) z s.k s.c s.f s.v s.a s.n) 37) = w1 := ⟨_, rfl⟩
  rw [hw1] at hb0 hx0
  have HJ := Lib.hid (cContains _ s.J sv w1 (hx.below hb0))
  have HRm := Lib.hid (fun w' (hb : Below w1.heap.size w1 w') => cContains _ s.R sv w' ((hy.below hb0).below hb))
  have HB0 := Lib.hid hb0
  have HX := Lib.hid hx0
  have HW := Lib.hid hw1
  clear hx hy hb0 hx0 hw1 hM
  generalize s.k = SK at *
  generalize s.c = SC at *
  generalize s.f = SF at *
  generalize s.v = SV at *
  generalize s.a = SA at *
  generalize s.n = SN at *
  generalize s.J.contains sv = inJ at *
  generalize s.R.contains sv = inR at *
  generalize s.J.length = lJ at *
  generalize s.R.length = lR at *
  obtain ⟨⟨s0, s1, s2, s3, s4, s5, s6, s7, s8⟩, _⟩ := row9_at HX.out
  go_enter Tryz.func39, Tryz.ntmps39
  go_upto_region 1 with fail
  rw [HW.out]
  go_wp2_with fail
  refine HJ.out.mono ?_
  rintro e w2 ⟨rfl, hb2⟩
  have HX2 := Lib.hid (below_block HX.out hb2)
  have HB2 := Lib.hid hb2
  clear s0 s1 s2 s3 s4 s5 s6 s7 s8 hb2 HJ HX
  cases inJ
  · go_wp2
    go_ret
    exact ⟨rfl, bnext HB0.out HB2.out⟩
  · obtain ⟨⟨s0, s1, s2, s3, s4, s5, s6, s7, s8⟩, _⟩ := row9_at HX2.out
    go_wp2_with fail
    refine (HRm.out w2 HB2.out).mono ?_
    rintro e w3 ⟨rfl, hb3⟩
    clear s0 s1 s2 s3 s4 s5 s6 s7 s8
    cases inR
    all_goals
      go_wp2
      go_ret
      exact ⟨rfl, bnext HB0.out (bnext HB2.out hb3)⟩

theorem rel_ret {R : Ending → World → Prop} {a : Act} {w : World} {g : Nat} {k s t v x y z er : Int} (hp : a.tmps.getD 6 undef = .pointer (some ⟨g, 0, none⟩)) (h3 : a.tmps.getD 7 undef = .int .i64 er) (hg : w.heap[g]? = some (cBox k s t v x y z))
    (hd : a.defers = []) (hR : R (.returned (.tuple #[cv k s t v x y z, .int .i64 er])) w) : bodyPost Tryz.prog Tryz.f21 R .ret a w := by
  have := results_cell_tmp1 (P := Tryz.prog) (fn := Tryz.f21) rfl a.tmps w g 49 _ _ _ hp hg Tryz.underlying49 rfl (by kernel_rfl)
  rw [h3] at this
  exact bodyPost_ret this hd hR
def Rpost (x : Chg) (acc : List Chg) (s : Sm) (w : World) (e : Ending) (w' : World) : Prop := e = .returned (.tuple #[cvT (DM.plc x acc s).1, .int .i64 (DM.plc x acc s).2]) ∧ Below w.heap.size w w'
theorem rel_boxes (w : World) (k sv t a b c : Int) (x y z : Value) (s : Sm) : ∃ w3, ((w.alloc (cBox k sv t 0 a b c)).alloc (.cells (s9 x y z s.k s.c s.f s.v s.a s.n) 37)).alloc (cBox 0 0 0 0 0 0 0) = w3 ∧ Below w.heap.size w w3 ∧
    w3.heap[w.heap.size + 1 + 1]? = some (cBox 0 0 0 0 0 0 0) ∧ w3.heap[w.heap.size]? = some (cBox k sv t 0 a b c) ∧ w3.heap[w.heap.size + 1]? = some (.cells (s9 x y z s.k s.c s.f s.v s.a s.n) 37 (0, 0)) := by
  have b1 := below_fresh w (cBox k sv t 0 a b c)
  have h1 := heap_alloc_new w (cBox k sv t 0 a b c)
  have e1 := World.size_alloc w (cBox k sv t 0 a b c)
  generalize w.alloc (cBox k sv t 0 a b c) = w1 at *
  have b2 := below_fresh w1 (.cells (s9 x y z s.k s.c s.f s.v s.a s.n) 37)
  have h2 := heap_alloc_new w1 (.cells (s9 x y z s.k s.c s.f s.v s.a s.n) 37)
  have e2 := World.size_alloc w1 (.cells (s9 x y z s.k s.c s.f s.v s.a s.n) 37)
  generalize w1.alloc (.cells (s9 x y z s.k s.c s.f s.v s.a s.n) 37) = w2 at *
  have b3 := below_fresh w2 (cBox 0 0 0 0 0 0 0)
  have h3 := heap_alloc_new w2 (cBox 0 0 0 0 0 0 0)
  refine ⟨_, rfl, bnext (bnext b1 b2) b3, ?_, below_block (below_block h1 b2) b3, ?_⟩
  · rw [e2, e1] at h3; exact h3
  · rw [e1] at h2; exact below_block h2 b3
/-- plc, case by case. -/
theorem plc_eq (k sv t a b c : Int) (acc : List Chg) (s : Sm) : (acc.length = 6 → DM.plc (k, sv, t, 0, a, b, c) acc s = (DM.zc, 3)) ∧ (acc.length < 6 →
    (DM.has acc k sv = true → DM.plc (k, sv, t, 0, a, b, c) acc s = (DM.zc, 5)) ∧ (DM.has acc k sv = false →
      (k = 1 → (s.J.contains sv = true ∨ s.R.contains sv = true → DM.plc (k, sv, t, 0, a, b, c) acc s = (DM.zc, 5)) ∧ (s.J.contains sv = false → s.R.contains sv = false → DM.plc (k, sv, t, 0, a, b, c) acc s = ((k, sv, t, 0, a, b, c), 0))) ∧
      (k = 2 → (DM.mbr s sv = false → DM.has acc 1 sv = false → DM.plc (k, sv, t, 0, a, b, c) acc s = (DM.zc, 6)) ∧ (DM.mbr s sv = true ∨ DM.has acc 1 sv = true → DM.plc (k, sv, t, 0, a, b, c) acc s = ((k, sv, t, 0, a, b, c), 0))) ∧
      (k = 3 → (DM.mbr s sv = false → DM.has acc 1 sv = false → DM.plc (k, sv, t, 0, a, b, c) acc s = (DM.zc, 6)) ∧ (DM.mbr s sv = true ∨ DM.has acc 1 sv = true → (DM.wv s.W sv < 1000 → DM.plc (k, sv, t, 0, a, b, c) acc s = ((k, sv, t, DM.wv s.W sv + 1, a, b, c), 0)) ∧ (¬ DM.wv s.W sv < 1000 → DM.plc (k, sv, t, 0, a, b, c) acc s = (DM.zc, 9)))) ∧
      (k = 4 → (s.v < 1000 → DM.plc (k, sv, t, 0, a, b, c) acc s = ((k, sv, t, s.v + 1, a, b, c), 0)) ∧ (¬ s.v < 1000 → DM.plc (k, sv, t, 0, a, b, c) acc s = (DM.zc, 9))))) := by
  unfold DM.plc
  dsimp only
  refine ⟨fun h => by rw [if_pos (by omega)], fun h => ?_⟩
  rw [if_neg (by omega)]
  refine ⟨fun h => by rw [if_pos h], fun h => ?_⟩
  rw [if_neg (by rw [h]; simp)]
  refine ⟨?_, ?_, ?_, ?_⟩
  · rintro rfl
    rw [if_pos rfl]
    exact ⟨fun h => by rw [if_pos h], fun h1 h2 => by rw [if_neg (by rw [h1, h2]; simp)]⟩
  · rintro rfl
    rw [if_neg (by decide), if_neg (by decide)]
    exact ⟨fun h1 h2 => by rw [if_pos ⟨h1, h2⟩], fun h => by rw [if_neg (by rcases h with h | h <;> simp [h]), if_neg (by decide)]⟩
  · rintro rfl
    rw [if_neg (by decide), if_neg (by decide)]
    exact ⟨fun h1 h2 => by rw [if_pos ⟨h1, h2⟩], fun h => by rw [if_neg (by rcases h with h | h <;> simp [h]), if_pos rfl]; exact ⟨fun h => by rw [if_neg (by omega)], fun h => by rw [if_pos (by omega)]⟩⟩
  · rintro rfl
    rw [if_neg (by decide), if_pos rfl]
    exact ⟨fun h => by rw [if_neg (by omega)], fun h => by rw [if_pos (by omega)]⟩

set_option maxRecDepth 100000 in
set_option maxHeartbeats 8000000 in
theorem cRelate (k sv t a b c : Int) (x y z : Value) (acc : List Chg) (va : Value) (s : Sm) (w : World) (hk : k = 1 ∨ k = 2 ∨ k = 3 ∨ k = 4) (hacc : RdC w va acc) (h6 : acc.length ≤ 6)
    (hx : RdI w x s.J) (hy : RdI w y s.R) (hz : RdW w z s.W) (hsv : 0 ≤ s.v) (hw : 0 ≤ DM.wv s.W sv) (hlW : s.W.length ≤ 1000000) :
    Calls Tryz.prog 21 #[cv k sv t 0 a b c, va, Go.Proofs.YthgnhaimdkcmeaaGreatDoor.sv x y z s.k s.c s.f s.v s.a s.n] w (Rpost (k, sv, t, 0, a, b, c) acc s w) := by
  obtain ⟨w3, hw3, hB, hR, hC, hS⟩ := rel_boxes w k sv t a b c x y z s
  have HH0 := Lib.hid (fun w' (hb : Below w.heap.size w w') => cHas va acc k sv w' (hacc.below hb))
  have HH1 := Lib.hid (fun w' (hb : Below w.heap.size w w') => cHas va acc 1 sv w' (hacc.below hb))
  have HJ := Lib.hid (fun w' (hb : Below w.heap.size w w') => cContains x s.J sv w' (hx.below hb))
  have HRm := Lib.hid (fun w' (hb : Below w.heap.size w w') => cContains y s.R sv w' (hy.below hb))
  have HM := Lib.hid (fun w' (hb : Below w.heap.size w w') => cIsMember x y z s sv w' (hx.below hb) (hy.below hb))
  have HWV := Lib.hid (fun w' (hb : Below w.heap.size w w') => cWeightVersion x y z s sv w' (hz.below hb) hlW)
  have HNX := Lib.hid (fun v w' h0 => cNext v w' h0)
  obtain ⟨aa, ac, rfl, _, _⟩ := hacc.shape
  obtain ⟨xa, xc, rfl, _, _⟩ := hx.shape
  obtain ⟨ya, yc, rfl, _, _⟩ := hy.shape
  obtain ⟨za, zc, rfl, _, _⟩ := hz.shape
  have HB := Lib.hid hB
  have HR := Lib.hid hR
  have HC := Lib.hid hC
  have HS := Lib.hid hS
  have HW := Lib.hid hw3
  obtain ⟨PL, hPL⟩ : ∃ p, p = DM.plc (k, sv, t, 0, a, b, c) acc s := ⟨_, rfl⟩
  have hgoal : Rpost (k, sv, t, 0, a, b, c) acc s w = fun e w' => e = .returned (.tuple #[cvT PL.1, .int .i64 PL.2]) ∧ Below w.heap.size w w' := by rw [hPL]; rfl
  rw [hgoal]
  have HPL := Lib.hid hPL
  have HL6 := Lib.hid h6
  clear hB hR hC hS hw3 hacc hx hy hz hPL hgoal h6 hlW
  obtain ⟨h0, hh0⟩ : ∃ h0, h0 = DM.has acc k sv := ⟨_, rfl⟩
  obtain ⟨h1, hh1⟩ : ∃ h1, h1 = DM.has acc 1 sv := ⟨_, rfl⟩
  obtain ⟨mb, hmb⟩ : ∃ m, m = DM.mbr s sv := ⟨_, rfl⟩
  obtain ⟨inJ, hJ⟩ : ∃ m, m = s.J.contains sv := ⟨_, rfl⟩
  obtain ⟨inR, hRm⟩ : ∃ m, m = s.R.contains sv := ⟨_, rfl⟩
  rw [← hh0] at HH0
  rw [← hh1] at HH1
  rw [← hmb] at HM
  rw [← hJ] at HJ
  rw [← hRm] at HRm
  have HE := Lib.hid (plc_eq k sv t a b c acc s)
  rw [← HPL.out, ← hh0, ← hh1, ← hmb, ← hJ, ← hRm] at HE
  have HWVE := Lib.hid hw
  generalize DM.wv s.W sv = V at HWV HE hw HWVE
  generalize s.v = V4 at *
  generalize s.a = SA at *
  generalize s.n = SN at *
  generalize s.k = SK at *
  generalize s.c = SC at *
  generalize s.f = SF at *
  generalize s.J.length = lJ at *
  generalize s.R.length = lR at *
  generalize s.W.length = lW at *
  clear HPL hh0 hh1 hmb hJ hRm
  by_cases hl : acc.length = 6
  · have HP := Lib.hid (HE.out.1 hl)
    have hq : ((acc.length : Int) == 6) = true := by rw [hl]; rfl
    clear hl HE
    go_enter Tryz.func21, Tryz.ntmps21
    go_upto_region 1 with fail
    rw [HW.out]
    obtain ⟨⟨r0, r1, r2, r3, r4, r5, r6⟩, f0, f1, f2, f3, f4, f5, f6⟩ := row7_atF HR.out
    go_wp2
    have hput := row7_putO HR.out (.int .i64 0) (.int .i64 0) (.int .i64 0) (.int .i64 0) (.int .i64 0) (.int .i64 0) (.int .i64 0)
    exact rel_ret rfl rfl hput.1 rfl ⟨by rw [HP.out]; rfl, HB.out.trans (hput.2.below (by omega) HB.out.size)⟩
  · have HF := Lib.hid (HE.out.2 (by have := HL6.out; omega))
    have hq : ((acc.length : Int) == 6) = false := by rw [beq_eq_false_iff_ne]; omega
    clear hl HE
    obtain ⟨⟨c0, c1, c2, c3, c4, c5, c6⟩, g0, g1, g2, g3, g4, g5, g6⟩ := row7_atF HC.out
    go_enter Tryz.func21, Tryz.ntmps21
    go_upto_region 1 with fail
    rw [HW.out]
    go_wp2_with fail
    refine (HH0.out _ HB.out).mono ?_
    rintro e wn ⟨rfl, hq⟩
    replace HC := Lib.hid (below_block HC.out hq)
    replace HS := Lib.hid (below_block HS.out hq)
    replace HR := Lib.hid (below_block HR.out hq)
    replace HB := Lib.hid (bnext HB.out hq)
    clear hq
    clear c0 c1 c2 c3 c4 c5 c6 g0 g1 g2 g3 g4 g5 g6
    clear HH0 hq
    cases h0
    · have HG := Lib.hid (HF.out.2 rfl)
      clear HF
      rcases hk with rfl | rfl | rfl | rfl
      · have HK := Lib.hid (HG.out.1 rfl)
        obtain ⟨⟨c0, c1, c2, c3, c4, c5, c6⟩, g0, g1, g2, g3, g4, g5, g6⟩ := row7_atF HC.out
        obtain ⟨⟨s0, s1, s2, s3, s4, s5, s6, s7, s8⟩, _⟩ := row9_at HS.out
        go_wp2_with fail
        refine (HJ.out _ HB.out).mono ?_
        rintro e wn ⟨rfl, hq⟩
        replace HC := Lib.hid (below_block HC.out hq)
        replace HS := Lib.hid (below_block HS.out hq)
        replace HR := Lib.hid (below_block HR.out hq)
        replace HB := Lib.hid (bnext HB.out hq)
        clear hq
        clear c0 c1 c2 c3 c4 c5 c6 g0 g1 g2 g3 g4 g5 g6
        clear s0 s1 s2 s3 s4 s5 s6 s7 s8
        cases inJ
        · obtain ⟨⟨c0, c1, c2, c3, c4, c5, c6⟩, g0, g1, g2, g3, g4, g5, g6⟩ := row7_atF HC.out
          obtain ⟨⟨s0, s1, s2, s3, s4, s5, s6, s7, s8⟩, _⟩ := row9_at HS.out
          go_wp2_with fail
          refine (HRm.out _ HB.out).mono ?_
          rintro e wn ⟨rfl, hq⟩
          replace HC := Lib.hid (below_block HC.out hq)
          replace HS := Lib.hid (below_block HS.out hq)
          replace HR := Lib.hid (below_block HR.out hq)
          replace HB := Lib.hid (bnext HB.out hq)
          clear hq
          clear c0 c1 c2 c3 c4 c5 c6 g0 g1 g2 g3 g4 g5 g6
          clear s0 s1 s2 s3 s4 s5 s6 s7 s8
          cases inR
          · have HP : Hid (PL = ((1, sv, t, 0, a, b, c), 0)) := Lib.hid (by first | exact HK.out.2 rfl rfl | exact HK.out.2 trivial trivial | exact HK.out.2 trivial rfl | exact HK.out.2 rfl trivial | exact HK.out.2)
            obtain ⟨⟨r0, r1, r2, r3, r4, r5, r6⟩, f0, f1, f2, f3, f4, f5, f6⟩ := row7_atF HR.out
            obtain ⟨⟨c0, c1, c2, c3, c4, c5, c6⟩, _⟩ := row7_atF HC.out
            go_wp2
            have hput := row7_putO HR.out (.int .i64 1) (.int .i64 sv) (.int .i64 t) (.int .i64 0) (.int .i64 a) (.int .i64 b) (.int .i64 c)
            exact rel_ret rfl rfl hput.1 rfl ⟨by rw [HP.out]; rfl, HB.out.trans (hput.2.below (by omega) HB.out.size)⟩
          · have HP : Hid (PL = (DM.zc, 5)) := Lib.hid (by first | exact HK.out.1 (.inr rfl) | exact HK.out.1)
            obtain ⟨⟨r0, r1, r2, r3, r4, r5, r6⟩, f0, f1, f2, f3, f4, f5, f6⟩ := row7_atF HR.out
            go_wp2
            have hput := row7_putO HR.out (.int .i64 0) (.int .i64 0) (.int .i64 0) (.int .i64 0) (.int .i64 0) (.int .i64 0) (.int .i64 0)
            exact rel_ret rfl rfl hput.1 rfl ⟨by rw [HP.out]; rfl, HB.out.trans (hput.2.below (by omega) HB.out.size)⟩
        · have HP : Hid (PL = (DM.zc, 5)) := Lib.hid (by first | exact HK.out.1 (.inl rfl) | exact HK.out.1)
          obtain ⟨⟨r0, r1, r2, r3, r4, r5, r6⟩, f0, f1, f2, f3, f4, f5, f6⟩ := row7_atF HR.out
          go_wp2
          have hput := row7_putO HR.out (.int .i64 0) (.int .i64 0) (.int .i64 0) (.int .i64 0) (.int .i64 0) (.int .i64 0) (.int .i64 0)
          exact rel_ret rfl rfl hput.1 rfl ⟨by rw [HP.out]; rfl, HB.out.trans (hput.2.below (by omega) HB.out.size)⟩
      · have HPM := Lib.hid (HG.out.2.1 rfl)
        obtain ⟨⟨c0, c1, c2, c3, c4, c5, c6⟩, g0, g1, g2, g3, g4, g5, g6⟩ := row7_atF HC.out
        obtain ⟨⟨s0, s1, s2, s3, s4, s5, s6, s7, s8⟩, _⟩ := row9_at HS.out
        go_wp2_with fail
        refine (HM.out _ HB.out).mono ?_
        rintro e wn ⟨rfl, hq⟩
        replace HC := Lib.hid (below_block HC.out hq)
        replace HS := Lib.hid (below_block HS.out hq)
        replace HR := Lib.hid (below_block HR.out hq)
        replace HB := Lib.hid (bnext HB.out hq)
        clear hq
        clear c0 c1 c2 c3 c4 c5 c6 g0 g1 g2 g3 g4 g5 g6
        clear s0 s1 s2 s3 s4 s5 s6 s7 s8
        cases mb
        · obtain ⟨⟨c0, c1, c2, c3, c4, c5, c6⟩, g0, g1, g2, g3, g4, g5, g6⟩ := row7_atF HC.out
          go_wp2_with fail
          refine (HH1.out _ HB.out).mono ?_
          rintro e wn ⟨rfl, hq⟩
          replace HC := Lib.hid (below_block HC.out hq)
          replace HS := Lib.hid (below_block HS.out hq)
          replace HR := Lib.hid (below_block HR.out hq)
          replace HB := Lib.hid (bnext HB.out hq)
          clear hq
          clear c0 c1 c2 c3 c4 c5 c6 g0 g1 g2 g3 g4 g5 g6
          clear HM
          cases h1
          · have HP : Hid (PL = (DM.zc, 6)) := Lib.hid (by first | exact HPM.out.1 rfl rfl | exact HPM.out.1 trivial trivial | exact HPM.out.1 trivial rfl | exact HPM.out.1 rfl trivial | exact HPM.out.1)
            obtain ⟨⟨r0, r1, r2, r3, r4, r5, r6⟩, f0, f1, f2, f3, f4, f5, f6⟩ := row7_atF HR.out
            go_wp2
            have hput := row7_putO HR.out (.int .i64 0) (.int .i64 0) (.int .i64 0) (.int .i64 0) (.int .i64 0) (.int .i64 0) (.int .i64 0)
            exact rel_ret rfl rfl hput.1 rfl ⟨by rw [HP.out]; rfl, HB.out.trans (hput.2.below (by omega) HB.out.size)⟩
          · have HP : Hid (PL = ((2, sv, t, 0, a, b, c), 0)) := Lib.hid (by first | exact HPM.out.2 (.inr rfl) | exact HPM.out.2)
            have hvv : ¬ (1000 : Int) < 0 := by omega
            obtain ⟨⟨r0, r1, r2, r3, r4, r5, r6⟩, f0, f1, f2, f3, f4, f5, f6⟩ := row7_atF HR.out
            obtain ⟨⟨c0, c1, c2, c3, c4, c5, c6⟩, _⟩ := row7_atF HC.out
            go_wp2
            have hput := row7_putO HR.out (.int .i64 2) (.int .i64 sv) (.int .i64 t) (.int .i64 0) (.int .i64 a) (.int .i64 b) (.int .i64 c)
            exact rel_ret rfl rfl hput.1 rfl ⟨by rw [HP.out]; rfl, HB.out.trans (hput.2.below (by omega) HB.out.size)⟩
        · have HP : Hid (PL = ((2, sv, t, 0, a, b, c), 0)) := Lib.hid (by first | exact HPM.out.2 (.inl rfl) | exact HPM.out.2)
          have hvv : ¬ (1000 : Int) < 0 := by omega
          obtain ⟨⟨r0, r1, r2, r3, r4, r5, r6⟩, f0, f1, f2, f3, f4, f5, f6⟩ := row7_atF HR.out
          obtain ⟨⟨c0, c1, c2, c3, c4, c5, c6⟩, _⟩ := row7_atF HC.out
          go_wp2
          have hput := row7_putO HR.out (.int .i64 2) (.int .i64 sv) (.int .i64 t) (.int .i64 0) (.int .i64 a) (.int .i64 b) (.int .i64 c)
          exact rel_ret rfl rfl hput.1 rfl ⟨by rw [HP.out]; rfl, HB.out.trans (hput.2.below (by omega) HB.out.size)⟩
      · have HPM := Lib.hid (HG.out.2.2.1 rfl)
        obtain ⟨⟨c0, c1, c2, c3, c4, c5, c6⟩, g0, g1, g2, g3, g4, g5, g6⟩ := row7_atF HC.out
        obtain ⟨⟨s0, s1, s2, s3, s4, s5, s6, s7, s8⟩, _⟩ := row9_at HS.out
        go_wp2_with fail
        refine (HWV.out _ HB.out).mono ?_
        rintro e wn ⟨rfl, hq⟩
        replace HC := Lib.hid (below_block HC.out hq)
        replace HS := Lib.hid (below_block HS.out hq)
        replace HR := Lib.hid (below_block HR.out hq)
        replace HB := Lib.hid (bnext HB.out hq)
        clear hq
        clear c0 c1 c2 c3 c4 c5 c6 g0 g1 g2 g3 g4 g5 g6
        clear s0 s1 s2 s3 s4 s5 s6 s7 s8
        obtain ⟨⟨c0, c1, c2, c3, c4, c5, c6⟩, g0, g1, g2, g3, g4, g5, g6⟩ := row7_atF HC.out
        go_wp2_with fail
        refine (HNX.out V _ HWVE.out).mono ?_
        rintro e wn ⟨rfl, hq⟩
        replace HC := Lib.hid (below_block HC.out hq)
        replace HS := Lib.hid (below_block HS.out hq)
        replace HR := Lib.hid (below_block HR.out hq)
        replace HB := Lib.hid (bnext HB.out hq)
        clear hq
        clear c0 c1 c2 c3 c4 c5 c6 g0 g1 g2 g3 g4 g5 g6
        have hcs : (wn.setCell ⟨w.heap.size, 3, none⟩ (.int .i64 (if V < 1000 then V + 1 else 1001))).heap[w.heap.size]? = some (cBox 3 sv t (if V < 1000 then V + 1 else 1001) a b c) := heap_setCell_same wn w.heap.size 3 _ _ _ HC.out
        have hon : Only w.heap.size wn (wn.setCell ⟨w.heap.size, 3, none⟩ (.int .i64 (if V < 1000 then V + 1 else 1001))) := Only.set 3 _
        obtain ⟨⟨c0, c1, c2, c3, c4, c5, c6⟩, g0, g1, g2, g3, g4, g5, g6⟩ := row7_atF HC.out
        obtain ⟨NV, hNV⟩ : ∃ N, N = (if V < 1000 then V + 1 else 1001) := ⟨_, rfl⟩
        rw [← hNV] at hcs hon ⊢
        have HNV := Lib.hid hNV
        clear hNV
        have HS' := Lib.hid (hon.at HS.out (by omega))
        have HR' := Lib.hid (hon.at HR.out (by omega))
        have HB' := Lib.hid (HB.out.trans (hon.below (Nat.le_refl _) HB.out.size))
        have HC' := Lib.hid hcs
        clear hcs hon
        go_upto_region 13 with fail
        clear HC HS HR HB
        clear c0 c1 c2 c3 c4 c5 c6 g0 g1 g2 g3 g4 g5 g6
        generalize wn.setCell ⟨w.heap.size, 3, none⟩ (.int .i64 NV) = wm at HS' HR' HB' HC' ⊢
        have HC := HC'
        have HS := HS'
        have HR := HR'
        have HB := HB'
        clear HC' HS' HR' HB'
        obtain ⟨⟨c0, c1, c2, c3, c4, c5, c6⟩, g0, g1, g2, g3, g4, g5, g6⟩ := row7_atF HC.out
        obtain ⟨⟨s0, s1, s2, s3, s4, s5, s6, s7, s8⟩, _⟩ := row9_at HS.out
        go_wp2_with fail
        refine (HM.out _ HB.out).mono ?_
        rintro e wn ⟨rfl, hq⟩
        replace HC := Lib.hid (below_block HC.out hq)
        replace HS := Lib.hid (below_block HS.out hq)
        replace HR := Lib.hid (below_block HR.out hq)
        replace HB := Lib.hid (bnext HB.out hq)
        clear hq
        clear c0 c1 c2 c3 c4 c5 c6 g0 g1 g2 g3 g4 g5 g6
        clear s0 s1 s2 s3 s4 s5 s6 s7 s8
        cases mb
        · obtain ⟨⟨c0, c1, c2, c3, c4, c5, c6⟩, g0, g1, g2, g3, g4, g5, g6⟩ := row7_atF HC.out
          go_wp2_with fail
          refine (HH1.out _ HB.out).mono ?_
          rintro e wn ⟨rfl, hq⟩
          replace HC := Lib.hid (below_block HC.out hq)
          replace HS := Lib.hid (below_block HS.out hq)
          replace HR := Lib.hid (below_block HR.out hq)
          replace HB := Lib.hid (bnext HB.out hq)
          clear hq
          clear c0 c1 c2 c3 c4 c5 c6 g0 g1 g2 g3 g4 g5 g6
          clear HM
          cases h1
          · have HP : Hid (PL = (DM.zc, 6)) := Lib.hid (by first | exact HPM.out.1 rfl rfl | exact HPM.out.1 trivial trivial | exact HPM.out.1 trivial rfl | exact HPM.out.1 rfl trivial | exact HPM.out.1)
            obtain ⟨⟨r0, r1, r2, r3, r4, r5, r6⟩, f0, f1, f2, f3, f4, f5, f6⟩ := row7_atF HR.out
            go_wp2
            have hput := row7_putO HR.out (.int .i64 0) (.int .i64 0) (.int .i64 0) (.int .i64 0) (.int .i64 0) (.int .i64 0) (.int .i64 0)
            exact rel_ret rfl rfl hput.1 rfl ⟨by rw [HP.out]; rfl, HB.out.trans (hput.2.below (by omega) HB.out.size)⟩
          · by_cases hv : V < 1000
            · have HP : Hid (PL = ((3, sv, t, V + 1, a, b, c), 0)) := Lib.hid (by first | exact (HPM.out.2 (.inr rfl)).1 hv | exact HPM.out.2.1 hv | exact (HPM.out.2 (.inr rfl)).1 (by omega) | exact HPM.out.2.1 (by omega))
              have hif : Hid (NV = V + 1) := Lib.hid (by rw [HNV.out, if_pos hv])
              have hvv : ¬ (1000 : Int) < NV := by rw [hif.out]; omega
              rw [hif.out] at hvv HC
              clear hif
              obtain ⟨⟨r0, r1, r2, r3, r4, r5, r6⟩, f0, f1, f2, f3, f4, f5, f6⟩ := row7_atF HR.out
              obtain ⟨⟨c0, c1, c2, c3, c4, c5, c6⟩, _⟩ := row7_atF HC.out
              go_wp2
              have hput := row7_putO HR.out (.int .i64 3) (.int .i64 sv) (.int .i64 t) (.int .i64 (V + 1)) (.int .i64 a) (.int .i64 b) (.int .i64 c)
              exact rel_ret rfl rfl hput.1 rfl ⟨by rw [HP.out]; rfl, HB.out.trans (hput.2.below (by omega) HB.out.size)⟩
            · have HP : Hid (PL = (DM.zc, 9)) := Lib.hid (by first | exact (HPM.out.2 (.inr rfl)).2 hv | exact HPM.out.2.2 hv | exact (HPM.out.2 (.inr rfl)).2 (by omega) | exact HPM.out.2.2 (by omega))
              have hif : Hid (NV = 1001) := Lib.hid (by rw [HNV.out, if_neg hv])
              rw [hif.out] at HC
              clear hif hv
              obtain ⟨⟨c0, c1, c2, c3, c4, c5, c6⟩, g0, g1, g2, g3, g4, g5, g6⟩ := row7_atF HC.out
              obtain ⟨⟨r0, r1, r2, r3, r4, r5, r6⟩, f0, f1, f2, f3, f4, f5, f6⟩ := row7_atF HR.out
              go_wp2
              have hput := row7_putO HR.out (.int .i64 0) (.int .i64 0) (.int .i64 0) (.int .i64 0) (.int .i64 0) (.int .i64 0) (.int .i64 0)
              exact rel_ret rfl rfl hput.1 rfl ⟨by rw [HP.out]; rfl, HB.out.trans (hput.2.below (by omega) HB.out.size)⟩
        · by_cases hv : V < 1000
          · have HP : Hid (PL = ((3, sv, t, V + 1, a, b, c), 0)) := Lib.hid (by first | exact (HPM.out.2 (.inl rfl)).1 hv | exact HPM.out.2.1 hv | exact (HPM.out.2 (.inl rfl)).1 (by omega) | exact HPM.out.2.1 (by omega))
            have hif : Hid (NV = V + 1) := Lib.hid (by rw [HNV.out, if_pos hv])
            have hvv : ¬ (1000 : Int) < NV := by rw [hif.out]; omega
            rw [hif.out] at hvv HC
            clear hif
            obtain ⟨⟨r0, r1, r2, r3, r4, r5, r6⟩, f0, f1, f2, f3, f4, f5, f6⟩ := row7_atF HR.out
            obtain ⟨⟨c0, c1, c2, c3, c4, c5, c6⟩, _⟩ := row7_atF HC.out
            go_wp2
            have hput := row7_putO HR.out (.int .i64 3) (.int .i64 sv) (.int .i64 t) (.int .i64 (V + 1)) (.int .i64 a) (.int .i64 b) (.int .i64 c)
            exact rel_ret rfl rfl hput.1 rfl ⟨by rw [HP.out]; rfl, HB.out.trans (hput.2.below (by omega) HB.out.size)⟩
          · have HP : Hid (PL = (DM.zc, 9)) := Lib.hid (by first | exact (HPM.out.2 (.inl rfl)).2 hv | exact HPM.out.2.2 hv | exact (HPM.out.2 (.inl rfl)).2 (by omega) | exact HPM.out.2.2 (by omega))
            have hif : Hid (NV = 1001) := Lib.hid (by rw [HNV.out, if_neg hv])
            rw [hif.out] at HC
            clear hif hv
            obtain ⟨⟨c0, c1, c2, c3, c4, c5, c6⟩, g0, g1, g2, g3, g4, g5, g6⟩ := row7_atF HC.out
            obtain ⟨⟨r0, r1, r2, r3, r4, r5, r6⟩, f0, f1, f2, f3, f4, f5, f6⟩ := row7_atF HR.out
            go_wp2
            have hput := row7_putO HR.out (.int .i64 0) (.int .i64 0) (.int .i64 0) (.int .i64 0) (.int .i64 0) (.int .i64 0) (.int .i64 0)
            exact rel_ret rfl rfl hput.1 rfl ⟨by rw [HP.out]; rfl, HB.out.trans (hput.2.below (by omega) HB.out.size)⟩
      · have HPM := Lib.hid (HG.out.2.2.2 rfl)
        obtain ⟨⟨s0, s1, s2, s3, s4, s5, s6, s7, s8⟩, _⟩ := row9_at HS.out
        obtain ⟨⟨c0, c1, c2, c3, c4, c5, c6⟩, g0, g1, g2, g3, g4, g5, g6⟩ := row7_atF HC.out
        go_wp2_with fail
        refine (HNX.out V4 _ hsv).mono ?_
        rintro e wn ⟨rfl, hq⟩
        replace HC := Lib.hid (below_block HC.out hq)
        replace HS := Lib.hid (below_block HS.out hq)
        replace HR := Lib.hid (below_block HR.out hq)
        replace HB := Lib.hid (bnext HB.out hq)
        clear hq
        clear s0 s1 s2 s3 s4 s5 s6 s7 s8
        clear c0 c1 c2 c3 c4 c5 c6 g0 g1 g2 g3 g4 g5 g6
        have hcs : (wn.setCell ⟨w.heap.size, 3, none⟩ (.int .i64 (if V4 < 1000 then V4 + 1 else 1001))).heap[w.heap.size]? = some (cBox 4 sv t (if V4 < 1000 then V4 + 1 else 1001) a b c) := heap_setCell_same wn w.heap.size 3 _ _ _ HC.out
        have hon : Only w.heap.size wn (wn.setCell ⟨w.heap.size, 3, none⟩ (.int .i64 (if V4 < 1000 then V4 + 1 else 1001))) := Only.set 3 _
        obtain ⟨⟨c0, c1, c2, c3, c4, c5, c6⟩, g0, g1, g2, g3, g4, g5, g6⟩ := row7_atF HC.out
        obtain ⟨NV, hNV⟩ : ∃ N, N = (if V4 < 1000 then V4 + 1 else 1001) := ⟨_, rfl⟩
        rw [← hNV] at hcs hon ⊢
        have HNV := Lib.hid hNV
        clear hNV
        have HR' := Lib.hid (hon.at HR.out (by omega))
        have HB' := Lib.hid (HB.out.trans (hon.below (Nat.le_refl _) HB.out.size))
        have HC' := Lib.hid hcs
        clear hcs hon
        go_upto_region 16 with fail
        clear HC HS HR HB
        clear c0 c1 c2 c3 c4 c5 c6 g0 g1 g2 g3 g4 g5 g6
        generalize wn.setCell ⟨w.heap.size, 3, none⟩ (.int .i64 NV) = wm at HR' HB' HC' ⊢
        have HC := HC'
        have HR := HR'
        have HB := HB'
        clear HC' HR' HB'
        by_cases hv : V4 < 1000
        · have hif : Hid (NV = V4 + 1) := Lib.hid (by rw [HNV.out, if_pos hv])
          have hvv : ¬ (1000 : Int) < NV := by rw [hif.out]; omega
          have HP : Hid (PL = ((4, sv, t, NV, a, b, c), 0)) := Lib.hid (by rw [hif.out]; first | exact HPM.out.1 hv | exact HPM.out.1 (by omega))
          clear hif
          obtain ⟨⟨r0, r1, r2, r3, r4, r5, r6⟩, f0, f1, f2, f3, f4, f5, f6⟩ := row7_atF HR.out
          obtain ⟨⟨c0, c1, c2, c3, c4, c5, c6⟩, _⟩ := row7_atF HC.out
          go_wp2
          have hput := row7_putO HR.out (.int .i64 4) (.int .i64 sv) (.int .i64 t) (.int .i64 NV) (.int .i64 a) (.int .i64 b) (.int .i64 c)
          exact rel_ret rfl rfl hput.1 rfl ⟨by rw [HP.out]; rfl, HB.out.trans (hput.2.below (by omega) HB.out.size)⟩
        · have HP : Hid (PL = (DM.zc, 9)) := Lib.hid (by first | exact HPM.out.2 hv | exact HPM.out.2 (by omega))
          have hif : Hid (NV = 1001) := Lib.hid (by rw [HNV.out, if_neg hv])
          have hvv : (1000 : Int) < NV := by rw [hif.out]; omega
          clear hif hv
          obtain ⟨⟨c0, c1, c2, c3, c4, c5, c6⟩, g0, g1, g2, g3, g4, g5, g6⟩ := row7_atF HC.out
          obtain ⟨⟨r0, r1, r2, r3, r4, r5, r6⟩, f0, f1, f2, f3, f4, f5, f6⟩ := row7_atF HR.out
          go_wp2
          have hput := row7_putO HR.out (.int .i64 0) (.int .i64 0) (.int .i64 0) (.int .i64 0) (.int .i64 0) (.int .i64 0) (.int .i64 0)
          exact rel_ret rfl rfl hput.1 rfl ⟨by rw [HP.out]; rfl, HB.out.trans (hput.2.below (by omega) HB.out.size)⟩
    · have HP := Lib.hid (HF.out.1 rfl)
      obtain ⟨⟨r0, r1, r2, r3, r4, r5, r6⟩, f0, f1, f2, f3, f4, f5, f6⟩ := row7_atF HR.out
      go_wp2
      have hput := row7_putO HR.out (.int .i64 0) (.int .i64 0) (.int .i64 0) (.int .i64 0) (.int .i64 0) (.int .i64 0) (.int .i64 0)
      exact rel_ret rfl rfl hput.1 rfl ⟨by rw [HP.out]; rfl, HB.out.trans (hput.2.below (by omega) HB.out.size)⟩

end Go.Proofs.YthgnhaimdkcmeaaGreatDoor
