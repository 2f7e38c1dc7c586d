/-
  The call of the reference's form: what DM.frm gives. Conditions: the line has at most a million bytes.
-/
import Derived.Test.YteiicflodobpnaaGreatDoorDRef3
namespace Go.Proofs.YteiicflodobpnaaGreatDoor
open Go.RowKit Go.Joins Go.Shelf
open JM (Chg)

def OkC : Option Chg → Chg → Bool → Prop
  | some y, x, ok => ok = true ∧ x = y
  | none, _, ok => ok = false
def Fm (o : Option Chg) (e : Ending) : Prop := ∃ k s t v a b c, ∃ ok : Bool, e = .returned (.tuple #[cv k s t v a b c, .bool ok]) ∧ OkC o (k, s, t, v, a, b, c) ok
theorem form_ret {R : Ending → World → Prop} {a : Act} {w : World} {g : Nat} {k s t v x y z : Int} {b : Bool} (hp : a.tmps.getD 2 undef = .pointer (some ⟨g, 0, none⟩)) (h3 : a.tmps.getD 3 undef = .bool b) (hg : w.heap[g]? = some (cBox k s t v x y z))
    (hd : a.defers = []) (hR : R (.returned (.tuple #[cv k s t v x y z, .bool b])) w) : bodyPost Tryz.prog Tryz.f49 R .ret a w := by
  have := results_cell_tmp1 (P := Tryz.prog) (fn := Tryz.f49) rfl a.tmps w g 52 _ _ _ hp hg Tryz.underlying52 rfl (by kernel_rfl)
  rw [h3] at this
  exact bodyPost_ret this hd hR

theorem kindT (x : ByteArray) : x.data.toList = DM.sJoin ∨ x.data.toList = DM.sRemove ∨ x.data.toList = DM.sWeight ∨ (x.data.toList ≠ DM.sJoin ∧ x.data.toList ≠ DM.sRemove ∧ x.data.toList ≠ DM.sWeight) := by
  by_cases h1 : x.data.toList = DM.sJoin
  · exact .inl h1
  by_cases h2 : x.data.toList = DM.sRemove
  · exact .inr (.inl h2)
  by_cases h3 : x.data.toList = DM.sWeight
  · exact .inr (.inr (.inl h3))
  exact .inr (.inr (.inr ⟨h1, h2, h3⟩))
theorem form_fin {O : Option Chg} {w X : World} (hX : X.heap[w.heap.size]? = some (cBox 0 0 0 0 0 0 0)) (hB : Below w.heap.size w X) (k s t v a b c : Int) (ok : Bool) (tm : Array Value) (e1 : OkC O (k, s, t, v, a, b, c) ok)
    (e2 : tm.getD 2 undef = .pointer (some ⟨w.heap.size, 0, none⟩)) (e3 : tm.getD 3 undef = .bool ok) :
    bodyPost Tryz.prog Tryz.f49 (fun e w' => Fm O e ∧ Below w.heap.size w w') .ret ⟨tm, []⟩ (((((((X.setCell ⟨w.heap.size, 0, none⟩ (.int .i64 k)).setCell ⟨w.heap.size, 1, none⟩ (.int .i64 s)).setCell ⟨w.heap.size, 2, none⟩ (.int .i64 t)).setCell ⟨w.heap.size, 3, none⟩ (.int .i64 v)).setCell ⟨w.heap.size, 4, none⟩ (.int .i64 a)).setCell ⟨w.heap.size, 5, none⟩ (.int .i64 b)).setCell ⟨w.heap.size, 6, none⟩ (.int .i64 c)) := by
  have hput := row7_putO hX (.int .i64 k) (.int .i64 s) (.int .i64 t) (.int .i64 v) (.int .i64 a) (.int .i64 b) (.int .i64 c)
  exact form_ret e2 e3 hput.1 rfl ⟨⟨k, s, t, v, a, b, c, ok, rfl, e1⟩, hB.trans (hput.2.below (Nat.le_refl _) hB.size)⟩

set_option maxRecDepth 100000 in
set_option maxHeartbeats 4000000 in
theorem rForm (s : ByteArray) (w : World) (hs : s.size ≤ 1000000) :
    Calls Tryz.prog 49 #[.string s] w fun e w' => Fm (DM.frm (DM.sp 32 s.data.toList)) e ∧ Below w.heap.size w w' := by
  have hb := below_fresh w (cBox 0 0 0 0 0 0 0)
  have hx := heap_alloc_new w (cBox 0 0 0 0 0 0 0)
  have hw : ∃ w1, w.alloc (cBox 0 0 0 0 0 0 0) = w1 := ⟨_, rfl⟩
  obtain ⟨w1, hw1⟩ := hw
  rw [hw1] at hb hx
  have HB := Lib.hid hb
  have HX := Lib.hid hx
  have HW := Lib.hid hw1
  have HN := Lib.hid rNumber
  have HP := Lib.hid rParseRule
  have HWD := Lib.hid (rWords s w1 hs)
  have hne := DM.sp_ne (c := 32) s.data.toList
  have HNE := Lib.hid hne
  obtain ⟨L, hL⟩ : ∃ L, L = DM.sp 32 s.data.toList := ⟨_, rfl⟩
  rw [← hL] at HWD HNE ⊢
  obtain ⟨O, hO⟩ : ∃ O, O = DM.frm L := ⟨_, rfl⟩
  rw [← hO]
  clear hb hx hw1 hs hne hL
  go_enter Tryz.func49, Tryz.ntmps49
  go_upto_region 1 with fail
  rw [HW.out]
  go_wp2_with fail
  refine HWD.out.mono ?_
  rintro e w2 ⟨v, ys, rfl, hrd, hmap, hb2⟩
  obtain ⟨a, c, rfl, hc, hlc⟩ := hrd.shape
  have HX2 := Lib.hid (below_block HX.out hb2)
  have HB2 := Lib.hid (bnext HB.out hb2)
  clear hb2 HX HB HW HWD
  obtain ⟨⟨c0, c1, c2, c3, c4, c5, c6⟩, f0, f1, f2, f3, f4, f5, f6⟩ := row7_atF HX2.out
  have FIN := Lib.hid (fun k s t v a b c ok tm => form_fin (O := O) HX2.out HB2.out k s t v a b c ok tm)
  have HMAP := Lib.hid hmap
  have HO := Lib.hid hO
  clear hmap hO
  match ys, hrd with
  | [], hrd => exact absurd HMAP.out.symm HNE.out
  | x :: r, hrd =>
    have hL : L = x.data.toList :: r.map (·.data.toList) := HMAP.out.symm
    obtain ⟨bx, ox, hix, hbbx, hcx⟩ := atT hrd 0 x rfl
    obtain ⟨n, hn⟩ : ∃ n, n = (x :: r).length := ⟨_, rfl⟩
    rw [← hn] at hix hlc ⊢
    replace hix : ∀ w0, (Instr.indexAt 37 (.slice a n c) (.int .i64 0)).run Tryz.prog w0 = .ok (.pointer (some ⟨bx, ox, none⟩)) w0 := hix
    by_cases hr : x.data.toList = DM.sRule
    · have q0 : (x.toList == [114, 117, 108, 101]) = true := strq_t hr
      obtain ⟨v', hcut, hrd'⟩ := hrd.cutL strE 1 (by simp)
      rw [← hn] at hcut
      replace hcut : ∀ w0 : World, (Instr.slice 37 (.slice a n c) (some (.int .i64 1)) none none).run Tryz.prog w0 = .ok v' w0 := hcut
      replace hrd' : RdT w2 v' r := hrd'
      obtain ⟨a', c', rfl, _, _⟩ := hrd'.shape
      have hfrm : O = (DM.prl (r.map (·.data.toList))).map DM.rch := by rw [HO.out, hL, hr, DM.frm_rule]
      have HFR := Lib.hid hfrm
      have HRD := Lib.hid hrd'
      obtain ⟨Q, hQ⟩ : ∃ Q, Q = DM.prl (r.map (·.data.toList)) := ⟨_, rfl⟩
      have HQ := Lib.hid hQ
      clear hfrm hrd' hQ hL hr hn hlc hrd
      go_wp2_with fail
      refine (HP.out _ _ _ HRD.out).mono ?_
      rintro e w3 ⟨rfl, hb3⟩
      replace HX2 := Lib.hid (below_block HX2.out hb3)
      replace HB2 := Lib.hid (bnext HB2.out hb3)
      rw [← HQ.out]
      clear hb3 c0 c1 c2 c3 c4 c5 c6 f0 f1 f2 f3 f4 f5 f6 FIN hix hbbx hcx hcut q0 hc
      have HF2 := Lib.hid (show O = Q.map DM.rch from HFR.out.trans (by rw [HQ.out]))
      clear HFR HQ HRD HMAP HNE HO
      obtain ⟨k, c, f, ok, hrl, hok⟩ : ∃ k c f ok, rlT Q = .tuple #[rl k c f, .bool ok] ∧ OkC (Q.map DM.rch) (4, 0, 0, 0, k, c, f) ok := by
        cases Q with
        | none => exact ⟨0, 0, 0, false, rfl, rfl⟩
        | some q => obtain ⟨k, c, f⟩ := q; exact ⟨k, c, f, true, rfl, rfl, rfl⟩
      rw [← HF2.out] at hok
      rw [hrl]
      have HX3 := Lib.hid (below_block HX2.out (below_fresh w3 (.cells #[.int .i64 k, .int .i64 c, .int .i64 f] 25)))
      have HB3 := Lib.hid (bnext HB2.out (below_fresh w3 (.cells #[.int .i64 k, .int .i64 c, .int .i64 f] 25)))
      have hx3 := heap_alloc_new w3 (.cells #[.int .i64 k, .int .i64 c, .int .i64 f] 25)
      have HOK := Lib.hid hok
      clear HX2 HB2 HF2 hrl hok
      go_upto_region 4 with fail
      obtain ⟨w4, hw4⟩ : ∃ w4, w3.alloc (.cells #[.int .i64 k, .int .i64 c, .int .i64 f] 25) = w4 := ⟨_, rfl⟩
      rw [hw4] at HX3 HB3 hx3 ⊢
      generalize w3.heap.size = g at hx3 ⊢
      obtain ⟨⟨p0, p1, p2⟩, _⟩ := row3_at hx3
      obtain ⟨⟨c0, c1, c2, c3, c4, c5, c6⟩, f0, f1, f2, f3, f4, f5, f6⟩ := row7_atF HX3.out
      clear hx3 hw4
      go_wp2
      exact form_fin HX3.out HB3.out _ _ _ _ _ _ _ _ _ HOK.out (by rfl) (by rfl)
    -- CASES
    have q0 : (x.toList == [114, 117, 108, 101]) = false := strq_f hr
    clear HP HNE
    rcases r with _ | ⟨y, _ | ⟨z, _ | ⟨u, _ | ⟨t, r⟩⟩⟩⟩
    · skip
      obtain rfl : n = 1 := hn
      have e : OkC O (0, 0, 0, 0, 0, 0, 0) false := by rw [HO.out, hL]; simp [DM.frm, OkC]
      have E := Lib.hid e
      clear e HO hL HMAP hrd hr 
      go_wp2_with (refine (HN.out _ _).mono ?_; rintro e w' ⟨rfl, rfl⟩)
      exact FIN.out _ _ _ _ _ _ _ _ _ E.out (by rfl) (by rfl)
    · skip
      obtain ⟨b1, o1, hi1, hbb1, hc1⟩ := atT hrd 1 y rfl
      rw [← hn] at hi1
      replace hi1 : ∀ w0, (Instr.indexAt 37 (.slice a n c) (.int .i64 1)).run Tryz.prog w0 = .ok (.pointer (some ⟨b1, o1, none⟩)) w0 := hi1
      obtain rfl : n = 2 := hn
      by_cases hy : DM.isN y.data.toList = true
      case neg =>
        have hy' : DM.isN y.data.toList = false := by simpa using hy
        have hny := DM.num_no hy'
        have e : OkC O (0, 0, 0, 0, 0, 0, 0) false := by rw [HO.out, hL]; simp [DM.frm, OkC, hy', hr]
        have E := Lib.hid e
        clear e HO hL HMAP hrd hr hy hy'
        go_wp2_with (refine (HN.out _ _).mono ?_; rintro e w' ⟨rfl, rfl⟩)
        exact FIN.out _ _ _ _ _ _ _ _ _ E.out (by rfl) (by rfl)
      have hny := DM.num_of hy
      have hy0 : ¬ (DM.val y.data.toList : Int) < 0 := by omega
      rcases kindT x with hk | hk | hk | ⟨k1, k2, k3⟩
      · skip
        have qJ : (x.toList == [106, 111, 105, 110]) = true := strq_t hk
        have qR : (x.toList == [114, 101, 109, 111, 118, 101]) = false := strq_f (by rw [hk]; decide)
        have qW : (x.toList == [119, 101, 105, 103, 104, 116]) = false := strq_f (by rw [hk]; decide)
        have e : OkC O (1, (DM.val y.data.toList : Int), 1, 0, 0, 0, 0) true := by rw [HO.out, hL]; simp [DM.frm, OkC, hk, hy]
        have E := Lib.hid e
        clear e HO hL HMAP hrd hr hk hy
        go_wp2_with (refine (HN.out _ _).mono ?_; rintro e w' ⟨rfl, rfl⟩)
        exact FIN.out _ _ _ _ _ _ _ _ _ E.out (by rfl) (by rfl)
      · skip
        have qJ : (x.toList == [106, 111, 105, 110]) = false := strq_f (by rw [hk]; decide)
        have qR : (x.toList == [114, 101, 109, 111, 118, 101]) = true := strq_t hk
        have qW : (x.toList == [119, 101, 105, 103, 104, 116]) = false := strq_f (by rw [hk]; decide)
        have e : OkC O (2, (DM.val y.data.toList : Int), 0, 0, 0, 0, 0) true := by rw [HO.out, hL]; simp [DM.frm, OkC, hk, hy, show DM.sRemove ≠ DM.sJoin by decide]
        have E := Lib.hid e
        clear e HO hL HMAP hrd hr hk hy
        go_wp2_with (refine (HN.out _ _).mono ?_; rintro e w' ⟨rfl, rfl⟩)
        exact FIN.out _ _ _ _ _ _ _ _ _ E.out (by rfl) (by rfl)
      · skip
        have qJ : (x.toList == [106, 111, 105, 110]) = false := strq_f (by rw [hk]; decide)
        have qR : (x.toList == [114, 101, 109, 111, 118, 101]) = false := strq_f (by rw [hk]; decide)
        have qW : (x.toList == [119, 101, 105, 103, 104, 116]) = true := strq_t hk
        have e : OkC O (0, 0, 0, 0, 0, 0, 0) false := by rw [HO.out, hL]; simp [DM.frm, OkC, hk, show DM.sWeight ≠ DM.sJoin by decide, show DM.sWeight ≠ DM.sRemove by decide, show DM.sWeight ≠ DM.sRule by decide]
        have E := Lib.hid e
        clear e HO hL HMAP hrd hr hk hy
        go_wp2_with (refine (HN.out _ _).mono ?_; rintro e w' ⟨rfl, rfl⟩)
        exact FIN.out _ _ _ _ _ _ _ _ _ E.out (by rfl) (by rfl)
      · skip
        have qJ : (x.toList == [106, 111, 105, 110]) = false := strq_f k1
        have qR : (x.toList == [114, 101, 109, 111, 118, 101]) = false := strq_f k2
        have qW : (x.toList == [119, 101, 105, 103, 104, 116]) = false := strq_f k3
        have e : OkC O (0, 0, 0, 0, 0, 0, 0) false := by rw [HO.out, hL]; simp [DM.frm, OkC, k1, k2, hr]
        have E := Lib.hid e
        clear e HO hL HMAP hrd hr k1 k2 k3 hy
        go_wp2_with (refine (HN.out _ _).mono ?_; rintro e w' ⟨rfl, rfl⟩)
        exact FIN.out _ _ _ _ _ _ _ _ _ E.out (by rfl) (by rfl)
    · skip
      obtain ⟨b1, o1, hi1, hbb1, hc1⟩ := atT hrd 1 y rfl
      rw [← hn] at hi1
      replace hi1 : ∀ w0, (Instr.indexAt 37 (.slice a n c) (.int .i64 1)).run Tryz.prog w0 = .ok (.pointer (some ⟨b1, o1, none⟩)) w0 := hi1
      obtain ⟨b2, o2, hi2, hbb2, hc2⟩ := atT hrd 2 z rfl
      rw [← hn] at hi2
      replace hi2 : ∀ w0, (Instr.indexAt 37 (.slice a n c) (.int .i64 2)).run Tryz.prog w0 = .ok (.pointer (some ⟨b2, o2, none⟩)) w0 := hi2
      obtain rfl : n = 3 := hn
      by_cases hy : DM.isN y.data.toList = true
      case neg =>
        have hy' : DM.isN y.data.toList = false := by simpa using hy
        have hny := DM.num_no hy'
        have e : OkC O (0, 0, 0, 0, 0, 0, 0) false := by rw [HO.out, hL]; simp [DM.frm, OkC, hy', hr]
        have E := Lib.hid e
        clear e HO hL HMAP hrd hr hy hy'
        go_wp2_with (refine (HN.out _ _).mono ?_; rintro e w' ⟨rfl, rfl⟩)
        exact FIN.out _ _ _ _ _ _ _ _ _ E.out (by rfl) (by rfl)
      have hny := DM.num_of hy
      have hy0 : ¬ (DM.val y.data.toList : Int) < 0 := by omega
      rcases kindT x with hk | hk | hk | ⟨k1, k2, k3⟩
      · skip
        have qJ : (x.toList == [106, 111, 105, 110]) = true := strq_t hk
        have qR : (x.toList == [114, 101, 109, 111, 118, 101]) = false := strq_f (by rw [hk]; decide)
        have qW : (x.toList == [119, 101, 105, 103, 104, 116]) = false := strq_f (by rw [hk]; decide)
        have e : OkC O (0, 0, 0, 0, 0, 0, 0) false := by rw [HO.out, hL]; simp [DM.frm, OkC, hk, show DM.sJoin ≠ DM.sWeight by decide, show DM.sJoin ≠ DM.sRule by decide]
        have E := Lib.hid e
        clear e HO hL HMAP hrd hr hk hy
        go_wp2_with (refine (HN.out _ _).mono ?_; rintro e w' ⟨rfl, rfl⟩)
        exact FIN.out _ _ _ _ _ _ _ _ _ E.out (by rfl) (by rfl)
      · skip
        have qJ : (x.toList == [106, 111, 105, 110]) = false := strq_f (by rw [hk]; decide)
        have qR : (x.toList == [114, 101, 109, 111, 118, 101]) = true := strq_t hk
        have qW : (x.toList == [119, 101, 105, 103, 104, 116]) = false := strq_f (by rw [hk]; decide)
        have e : OkC O (0, 0, 0, 0, 0, 0, 0) false := by rw [HO.out, hL]; simp [DM.frm, OkC, hk, show DM.sRemove ≠ DM.sWeight by decide, show DM.sRemove ≠ DM.sRule by decide]
        have E := Lib.hid e
        clear e HO hL HMAP hrd hr hk hy
        go_wp2_with (refine (HN.out _ _).mono ?_; rintro e w' ⟨rfl, rfl⟩)
        exact FIN.out _ _ _ _ _ _ _ _ _ E.out (by rfl) (by rfl)
      · skip
        have qJ : (x.toList == [106, 111, 105, 110]) = false := strq_f (by rw [hk]; decide)
        have qR : (x.toList == [114, 101, 109, 111, 118, 101]) = false := strq_f (by rw [hk]; decide)
        have qW : (x.toList == [119, 101, 105, 103, 104, 116]) = true := strq_t hk
        by_cases hz : DM.isN z.data.toList = true
        · have hnz := DM.num_of hz
          have hz0 : (0 : Int) ≤ (DM.val z.data.toList : Int) := by omega
          have e : OkC O (3, (DM.val y.data.toList : Int), (DM.val z.data.toList : Int), 0, 0, 0, 0) true := by rw [HO.out, hL]; simp [DM.frm, OkC, hk, hy, hz]
          have E := Lib.hid e
          clear e HO hL HMAP hrd hr hk hy hz
          go_wp2_with (refine (HN.out _ _).mono ?_; rintro e w' ⟨rfl, rfl⟩)
          exact FIN.out _ _ _ _ _ _ _ _ _ E.out (by rfl) (by rfl)
        · have hz' : DM.isN z.data.toList = false := by simpa using hz
          have hnz := DM.num_no hz'
          have e : OkC O (0, 0, 0, 0, 0, 0, 0) false := by rw [HO.out, hL]; simp [DM.frm, OkC, hz', hr]
          have E := Lib.hid e
          clear e HO hL HMAP hrd hr hk hy hz hz'
          go_wp2_with (refine (HN.out _ _).mono ?_; rintro e w' ⟨rfl, rfl⟩)
          exact FIN.out _ _ _ _ _ _ _ _ _ E.out (by rfl) (by rfl)
      · skip
        have qJ : (x.toList == [106, 111, 105, 110]) = false := strq_f k1
        have qR : (x.toList == [114, 101, 109, 111, 118, 101]) = false := strq_f k2
        have qW : (x.toList == [119, 101, 105, 103, 104, 116]) = false := strq_f k3
        have e : OkC O (0, 0, 0, 0, 0, 0, 0) false := by rw [HO.out, hL]; simp [DM.frm, OkC, k3, hr]
        have E := Lib.hid e
        clear e HO hL HMAP hrd hr k1 k2 k3 hy
        go_wp2_with (refine (HN.out _ _).mono ?_; rintro e w' ⟨rfl, rfl⟩)
        exact FIN.out _ _ _ _ _ _ _ _ _ E.out (by rfl) (by rfl)
    · skip
      obtain ⟨b1, o1, hi1, hbb1, hc1⟩ := atT hrd 1 y rfl
      rw [← hn] at hi1
      replace hi1 : ∀ w0, (Instr.indexAt 37 (.slice a n c) (.int .i64 1)).run Tryz.prog w0 = .ok (.pointer (some ⟨b1, o1, none⟩)) w0 := hi1
      obtain ⟨b2, o2, hi2, hbb2, hc2⟩ := atT hrd 2 z rfl
      rw [← hn] at hi2
      replace hi2 : ∀ w0, (Instr.indexAt 37 (.slice a n c) (.int .i64 2)).run Tryz.prog w0 = .ok (.pointer (some ⟨b2, o2, none⟩)) w0 := hi2
      obtain ⟨b3, o3, hi3, hbb3, hc3⟩ := atT hrd 3 u rfl
      rw [← hn] at hi3
      replace hi3 : ∀ w0, (Instr.indexAt 37 (.slice a n c) (.int .i64 3)).run Tryz.prog w0 = .ok (.pointer (some ⟨b3, o3, none⟩)) w0 := hi3
      obtain rfl : n = 4 := hn
      by_cases hy : DM.isN y.data.toList = true
      case neg =>
        have hy' : DM.isN y.data.toList = false := by simpa using hy
        have hny := DM.num_no hy'
        have e : OkC O (0, 0, 0, 0, 0, 0, 0) false := by rw [HO.out, hL]; simp [DM.frm, OkC, hy']
        have E := Lib.hid e
        clear e HO hL HMAP hrd hr hy hy'
        go_wp2_with (refine (HN.out _ _).mono ?_; rintro e w' ⟨rfl, rfl⟩)
        exact FIN.out _ _ _ _ _ _ _ _ _ E.out (by rfl) (by rfl)
      have hny := DM.num_of hy
      have hy0 : ¬ (DM.val y.data.toList : Int) < 0 := by omega
      rcases kindT x with hk | hk | hk | ⟨k1, k2, k3⟩
      · skip
        have qJ : (x.toList == [106, 111, 105, 110]) = true := strq_t hk
        have qR : (x.toList == [114, 101, 109, 111, 118, 101]) = false := strq_f (by rw [hk]; decide)
        have qW : (x.toList == [119, 101, 105, 103, 104, 116]) = false := strq_f (by rw [hk]; decide)
        by_cases hz : z.data.toList = DM.sWeight
        · have qz : (z.toList == [119, 101, 105, 103, 104, 116]) = true := strq_t hz
          by_cases hu : DM.isN u.data.toList = true
          · have hnu := DM.num_of hu
            have hu0 : (0 : Int) ≤ (DM.val u.data.toList : Int) := by omega
            have e : OkC O (1, (DM.val y.data.toList : Int), (DM.val u.data.toList : Int), 0, 0, 0, 0) true := by rw [HO.out, hL]; simp [DM.frm, OkC, hk, hy, hz, hu]
            have E := Lib.hid e
            clear e HO hL HMAP hrd hr hk hy hz hu
            go_wp2_with (refine (HN.out _ _).mono ?_; rintro e w' ⟨rfl, rfl⟩)
            exact FIN.out _ _ _ _ _ _ _ _ _ E.out (by rfl) (by rfl)
          · have hu' : DM.isN u.data.toList = false := by simpa using hu
            have hnu := DM.num_no hu'
            have e : OkC O (0, 0, 0, 0, 0, 0, 0) false := by rw [HO.out, hL]; simp [DM.frm, OkC, hu']
            have E := Lib.hid e
            clear e HO hL HMAP hrd hr hk hy hz hu hu'
            go_wp2_with (refine (HN.out _ _).mono ?_; rintro e w' ⟨rfl, rfl⟩)
            exact FIN.out _ _ _ _ _ _ _ _ _ E.out (by rfl) (by rfl)
        · have qz : (z.toList == [119, 101, 105, 103, 104, 116]) = false := strq_f hz
          have e : OkC O (0, 0, 0, 0, 0, 0, 0) false := by rw [HO.out, hL]; simp [DM.frm, OkC, hz]
          have E := Lib.hid e
          clear e HO hL HMAP hrd hr hk hy hz
          go_wp2_with (refine (HN.out _ _).mono ?_; rintro e w' ⟨rfl, rfl⟩)
          exact FIN.out _ _ _ _ _ _ _ _ _ E.out (by rfl) (by rfl)
      · skip
        have qJ : (x.toList == [106, 111, 105, 110]) = false := strq_f (by rw [hk]; decide)
        have qR : (x.toList == [114, 101, 109, 111, 118, 101]) = true := strq_t hk
        have qW : (x.toList == [119, 101, 105, 103, 104, 116]) = false := strq_f (by rw [hk]; decide)
        have e : OkC O (0, 0, 0, 0, 0, 0, 0) false := by rw [HO.out, hL]; simp [DM.frm, OkC, hk, show DM.sRemove ≠ DM.sJoin by decide]
        have E := Lib.hid e
        clear e HO hL HMAP hrd hr hk hy
        go_wp2_with (refine (HN.out _ _).mono ?_; rintro e w' ⟨rfl, rfl⟩)
        exact FIN.out _ _ _ _ _ _ _ _ _ E.out (by rfl) (by rfl)
      · skip
        have qJ : (x.toList == [106, 111, 105, 110]) = false := strq_f (by rw [hk]; decide)
        have qR : (x.toList == [114, 101, 109, 111, 118, 101]) = false := strq_f (by rw [hk]; decide)
        have qW : (x.toList == [119, 101, 105, 103, 104, 116]) = true := strq_t hk
        have e : OkC O (0, 0, 0, 0, 0, 0, 0) false := by rw [HO.out, hL]; simp [DM.frm, OkC, hk, show DM.sWeight ≠ DM.sJoin by decide]
        have E := Lib.hid e
        clear e HO hL HMAP hrd hr hk hy
        go_wp2_with (refine (HN.out _ _).mono ?_; rintro e w' ⟨rfl, rfl⟩)
        exact FIN.out _ _ _ _ _ _ _ _ _ E.out (by rfl) (by rfl)
      · skip
        have qJ : (x.toList == [106, 111, 105, 110]) = false := strq_f k1
        have qR : (x.toList == [114, 101, 109, 111, 118, 101]) = false := strq_f k2
        have qW : (x.toList == [119, 101, 105, 103, 104, 116]) = false := strq_f k3
        have e : OkC O (0, 0, 0, 0, 0, 0, 0) false := by rw [HO.out, hL]; simp [DM.frm, OkC, k1]
        have E := Lib.hid e
        clear e HO hL HMAP hrd hr k1 k2 k3 hy
        go_wp2_with (refine (HN.out _ _).mono ?_; rintro e w' ⟨rfl, rfl⟩)
        exact FIN.out _ _ _ _ _ _ _ _ _ E.out (by rfl) (by rfl)
    · skip
      obtain ⟨b1, o1, hi1, hbb1, hc1⟩ := atT hrd 1 y rfl
      rw [← hn] at hi1
      replace hi1 : ∀ w0, (Instr.indexAt 37 (.slice a n c) (.int .i64 1)).run Tryz.prog w0 = .ok (.pointer (some ⟨b1, o1, none⟩)) w0 := hi1
      have g0 : ¬ (n : Int) < 2 := by rw [hn]; simp; omega
      have g2 : ((n : Int) == 2) = false := beq_eq_false_iff_ne.2 (by rw [hn]; simp; omega)
      have g3 : ((n : Int) == 3) = false := beq_eq_false_iff_ne.2 (by rw [hn]; simp; omega)
      have g4 : ((n : Int) == 4) = false := beq_eq_false_iff_ne.2 (by rw [hn]; simp; omega)
      clear hn hlc
      by_cases hy : DM.isN y.data.toList = true
      case neg =>
        have hy' : DM.isN y.data.toList = false := by simpa using hy
        have hny := DM.num_no hy'
        have e : OkC O (0, 0, 0, 0, 0, 0, 0) false := by rw [HO.out, hL]; simp [DM.frm, OkC]
        have E := Lib.hid e
        clear e HO hL HMAP hrd hr hy hy'
        go_wp2_with (refine (HN.out _ _).mono ?_; rintro e w' ⟨rfl, rfl⟩)
        exact FIN.out _ _ _ _ _ _ _ _ _ E.out (by rfl) (by rfl)
      have hny := DM.num_of hy
      have hy0 : ¬ (DM.val y.data.toList : Int) < 0 := by omega
      rcases kindT x with hk | hk | hk | ⟨k1, k2, k3⟩
      · skip
        have qJ : (x.toList == [106, 111, 105, 110]) = true := strq_t hk
        have qR : (x.toList == [114, 101, 109, 111, 118, 101]) = false := strq_f (by rw [hk]; decide)
        have qW : (x.toList == [119, 101, 105, 103, 104, 116]) = false := strq_f (by rw [hk]; decide)
        have e : OkC O (0, 0, 0, 0, 0, 0, 0) false := by rw [HO.out, hL]; simp [DM.frm, OkC]
        have E := Lib.hid e
        clear e HO hL HMAP hrd hr hk hy
        go_wp2_with (refine (HN.out _ _).mono ?_; rintro e w' ⟨rfl, rfl⟩)
        exact FIN.out _ _ _ _ _ _ _ _ _ E.out (by rfl) (by rfl)
      · skip
        have qJ : (x.toList == [106, 111, 105, 110]) = false := strq_f (by rw [hk]; decide)
        have qR : (x.toList == [114, 101, 109, 111, 118, 101]) = true := strq_t hk
        have qW : (x.toList == [119, 101, 105, 103, 104, 116]) = false := strq_f (by rw [hk]; decide)
        have e : OkC O (0, 0, 0, 0, 0, 0, 0) false := by rw [HO.out, hL]; simp [DM.frm, OkC]
        have E := Lib.hid e
        clear e HO hL HMAP hrd hr hk hy
        go_wp2_with (refine (HN.out _ _).mono ?_; rintro e w' ⟨rfl, rfl⟩)
        exact FIN.out _ _ _ _ _ _ _ _ _ E.out (by rfl) (by rfl)
      · skip
        have qJ : (x.toList == [106, 111, 105, 110]) = false := strq_f (by rw [hk]; decide)
        have qR : (x.toList == [114, 101, 109, 111, 118, 101]) = false := strq_f (by rw [hk]; decide)
        have qW : (x.toList == [119, 101, 105, 103, 104, 116]) = true := strq_t hk
        have e : OkC O (0, 0, 0, 0, 0, 0, 0) false := by rw [HO.out, hL]; simp [DM.frm, OkC]
        have E := Lib.hid e
        clear e HO hL HMAP hrd hr hk hy
        go_wp2_with (refine (HN.out _ _).mono ?_; rintro e w' ⟨rfl, rfl⟩)
        exact FIN.out _ _ _ _ _ _ _ _ _ E.out (by rfl) (by rfl)
      · skip
        have qJ : (x.toList == [106, 111, 105, 110]) = false := strq_f k1
        have qR : (x.toList == [114, 101, 109, 111, 118, 101]) = false := strq_f k2
        have qW : (x.toList == [119, 101, 105, 103, 104, 116]) = false := strq_f k3
        have e : OkC O (0, 0, 0, 0, 0, 0, 0) false := by rw [HO.out, hL]; simp [DM.frm, OkC]
        have E := Lib.hid e
        clear e HO hL HMAP hrd hr k1 k2 k3 hy
        go_wp2_with (refine (HN.out _ _).mono ?_; rintro e w' ⟨rfl, rfl⟩)
        exact FIN.out _ _ _ _ _ _ _ _ _ E.out (by rfl) (by rfl)

end Go.Proofs.YteiicflodobpnaaGreatDoor
