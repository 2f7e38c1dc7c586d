/-
  The calls of the reference's joins, entryVersion and placed: what DM.plc gives. Conditions: what came in reads.
-/
import Derived.Test.YteiicflodobpnaaGreatDoorDRel
import Derived.Test.YteiicflodobpnaaGreatDoorDRef1
namespace Go.Proofs.YteiicflodobpnaaGreatDoor
open Go.RowKit Go.Joins Go.Shelf
open JM (Chg)
open MM (Mem Ent Sm Tri)

set_option maxRecDepth 100000 in
set_option maxHeartbeats 1000000 in
theorem rInD (v : Value) (l : List Int) (x : Int) (w : World) (h : RdI w v l) :
    Calls Tryz.prog 51 #[v, .int .i64 x] w fun e w' => e = .returned (.bool (l.contains x)) ∧ Below w.heap.size w w' := by
  obtain ⟨ad, c, rfl, hc, hl⟩ := h.shape
  have H := Lib.hid h
  clear h
  obtain ⟨R, hR⟩ : ∃ R, R = l.contains x := ⟨_, rfl⟩
  rw [← hR]
  have HR := Lib.hid (show R = (l.drop 0).contains x from hR)
  clear hR
  go_enter Tryz.func51, Tryz.ntmps51
  go_wp2
  go_loopw [5] (fun i wr => ∃ k : Nat, k ≤ l.length ∧ i = .int .i64 k ∧ Below w.heap.size w wr ∧ Hid (R = (l.drop k).contains x)) (fun i _ => l.length - (intOf i).toNat)
  case atStart => exact ⟨0, Nat.zero_le _, rfl, Below.refl _ _, HR⟩
  case round =>
    obtain ⟨k, hk, rfl, hbl, he⟩ := hrel
    clear HR
    by_cases hlt : k < l.length
    · obtain ⟨b, o, hi, hb, c0⟩ := atI (H.out.below hbl) k l[k] (List.getElem?_eq_getElem hlt)
      have hq : (k : Int) < (l.length : Int) := by omega
      have hd := Lib.hid (drop_get hlt)
      generalize l[k] = y at c0 hd
      by_cases hyx : y = x
      · subst hyx
        have e2 := Lib.hid (show R = true by rw [he.out, hd.out]; simp)
        clear he hd
        go_wp2
        go_ret
        rw [e2.out]
        exact ⟨rfl, hbl⟩
      · have e2 := Lib.hid (show R = (l.drop (k + 1)).contains x by rw [he.out, hd.out, List.contains_cons]; simp [show ¬ x = y from fun h => hyx h.symm])
        have hne : (y == x) = false := by simpa using hyx
        clear he hd
        go_wp2
        go_roundw
        case rel => exact ⟨k + 1, by omega, by go_num, hbl, e2⟩
        case measure => simp [intOf]; omega
    · have hq : ¬ ((k : Int) < (l.length : Int)) := by omega
      have e2 := Lib.hid (show R = false by rw [he.out, List.drop_of_length_le (by omega)]; rfl)
      clear he
      go_wp2
      go_ret
      rw [e2.out]
      exact ⟨rfl, hbl⟩

set_option maxRecDepth 100000 in
set_option maxHeartbeats 1000000 in
theorem rJoins (v : Value) (l : List Chg) (x : Int) (w : World) (h : RdC w v l) :
    Calls Tryz.prog 52 #[v, .int .i64 x] w fun e w' => e = .returned (.bool (DM.has l 1 x)) ∧ Below w.heap.size w w' := by
  obtain ⟨ad, c, rfl, hc, hl⟩ := h.shape
  have H := Lib.hid h
  clear h
  obtain ⟨R, hR⟩ : ∃ R, R = DM.has l 1 x := ⟨_, rfl⟩
  rw [← hR]
  have HR := Lib.hid (show R = DM.has (l.drop 0) 1 x from hR)
  clear hR
  go_enter Tryz.func52, Tryz.ntmps52
  go_wp2
  go_loopw [5] (fun i wr => ∃ k : Nat, k ≤ l.length ∧ i = .int .i64 k ∧ Below w.heap.size w wr ∧ Hid (R = DM.has (l.drop k) 1 x)) (fun i _ => l.length - (intOf i).toNat)
  case atStart => exact ⟨0, Nat.zero_le _, rfl, Below.refl _ _, HR⟩
  case round =>
    obtain ⟨k, hk, rfl, hbl, he⟩ := hrel
    clear HR
    by_cases hlt : k < l.length
    · have hat := List.getElem?_eq_getElem hlt
      have hd := Lib.hid (drop_get hlt)
      generalize l[k] = y at hat hd
      obtain ⟨k', s', t', v', a', b', c'⟩ := y
      obtain ⟨b, o, hi, hb, d0, d1, d2, d3, d4, d5, d6⟩ := atC (H.out.below hbl) k _ _ _ _ _ _ _ hat
      have hq : (k : Int) < (l.length : Int) := by omega
      have e0 := Lib.hid (show R = ((k' == 1 && s' == x) || DM.has (l.drop (k + 1)) 1 x) by rw [he.out, hd.out]; rfl)
      clear he hd hat
      by_cases hk1 : k' = 1
      · have q1 : (k' == 1) = true := by simp [hk1]
        by_cases hs : s' = x
        · have q2 : (s' == x) = true := by simp [hs]
          have e2 := Lib.hid (show R = true by rw [e0.out, q1, q2]; rfl)
          clear e0 hk1 hs
          go_wp2
          go_ret
          rw [e2.out]
          exact ⟨rfl, hbl⟩
        · have q2 : (s' == x) = false := by simpa using hs
          have e2 := Lib.hid (show R = DM.has (l.drop (k + 1)) 1 x by rw [e0.out, q1, q2]; rfl)
          clear e0 hk1 hs
          go_wp2
          go_roundw
          case rel => exact ⟨k + 1, by omega, by go_num, hbl, e2⟩
          case measure => simp [intOf]; omega
      · have q1 : (k' == 1) = false := by simpa using hk1
        have e2 := Lib.hid (show R = DM.has (l.drop (k + 1)) 1 x by rw [e0.out, q1]; rfl)
        clear e0 hk1
        go_wp2
        go_roundw
        case rel => exact ⟨k + 1, by omega, by go_num, hbl, e2⟩
        case measure => simp [intOf]; omega
    · have hq : ¬ ((k : Int) < (l.length : Int)) := by omega
      have e2 := Lib.hid (show R = false by rw [he.out, List.drop_of_length_le (by omega)]; rfl)
      clear he
      go_wp2
      go_ret
      rw [e2.out]
      exact ⟨rfl, hbl⟩

set_option maxRecDepth 100000 in
set_option maxHeartbeats 2000000 in
theorem rEntryVersion (x y z : Value) (s : Sm) (sv : Int) (w : World) (h : RdW w z s.W) (hl : s.W.length ≤ 1000000) :
    Calls Tryz.prog 53 #[Go.Proofs.YteiicflodobpnaaGreatDoor.sv x y z s.k s.c s.f s.v s.a s.n, .int .i64 sv] w fun e w' => e = .returned (.int .i64 (DM.wv s.W sv)) ∧ Below w.heap.size w w' := by
  obtain ⟨za, zc, rfl, _, _⟩ := h.shape
  generalize s.k = SK
  generalize s.c = SC
  generalize s.f = SF
  generalize s.v = SV
  generalize s.a = SA
  generalize s.n = SN
  generalize s.W = L at h hl ⊢
  obtain ⟨R, hR⟩ : ∃ R, R = DM.wv L sv := ⟨_, rfl⟩
  rw [← hR]
  have HR := Lib.hid (show R = DM.wv (L.drop 0) sv from hR)
  have hb0 := below_fresh w (.cells (s9 x y (.slice za L.length zc) SK SC SF SV SA SN) 27)
  have hx0 := heap_alloc_new w (.cells (s9 x y (.slice za L.length zc) SK SC SF SV SA SN) 27)
  have HH := Lib.hid (h.below hb0)
  obtain ⟨w1, hw1⟩ : ∃ w1, w.alloc (.cells (s9 x y (.slice za L.length zc) SK SC SF SV SA SN) 27) = w1 := ⟨_, rfl⟩
  rw [hw1] at hb0 hx0 HH
  obtain ⟨⟨s0, s1, s2, s3, s4, s5, s6, s7, s8⟩, _⟩ := row9_at hx0
  have HB0 := Lib.hid hb0
  have HX0 := Lib.hid hx0
  have HW := Lib.hid hw1
  have hll : (L.length : Int) ≤ 1000000 := by omega
  clear h hl hR hb0 hx0 hw1 s0 s1 s2 s3 s4 s5 s6 s7 s8
  go_enter Tryz.func53, Tryz.ntmps53
  go_upto_region 1 with fail
  rw [HW.out]
  go_wp2
  go_loopw [5] (fun i wr => ∃ j : Nat, j ≤ L.length ∧ i = .int .i64 j ∧ Hid (Below w1.heap.size w1 wr) ∧ Hid (R = DM.wv (L.drop j) sv)) (fun i _ => L.length - (intOf i).toNat)
  case atStart => exact ⟨0, Nat.zero_le _, rfl, Lib.hid (Below.refl _ _), HR⟩
  case round =>
    obtain ⟨j, hj, rfl, hb, he⟩ := hrel
    clear HR
    obtain ⟨⟨s0, s1, s2, s3, s4, s5, s6, s7, s8⟩, _⟩ := row9_at (below_block HX0.out hb.out)
    by_cases hlt : j < L.length
    · have hq : (j : Int) < (L.length : Int) := by omega
      have hdx := Lib.hid (drop_get hlt)
      have hat := List.getElem?_eq_getElem hlt
      generalize L[j] = e at hdx hat
      obtain ⟨es, et, ev, ea, en⟩ := e
      obtain ⟨b, o, hi, hbb, d0, d1, d2, d3, d4⟩ := atW (HH.out.below hb.out) j _ _ _ _ _ hat
      have HFW := Lib.hid (bnext HB0.out hb.out)
      have e2 := Lib.hid (show R = if es = sv then ev else DM.wv (L.drop (j + 1)) sv by rw [he.out, hdx.out]; rfl)
      clear he hdx hat
      by_cases hes : es = sv
      · have hb1 : (es == sv) = true := by simpa using hes
        have e3 := Lib.hid (show R = ev by rw [e2.out, if_pos hes])
        clear hes e2
        go_wp2
        go_ret
        exact ⟨ret_int e3.out.symm, HFW.out⟩
      · have hb1 : (es == sv) = false := by simpa using hes
        have e3 := Lib.hid (show R = DM.wv (L.drop (j + 1)) sv by rw [e2.out, if_neg hes])
        clear hes e2
        go_wp2
        go_roundw
        case rel => exact ⟨j + 1, by omega, by go_num, hb, e3⟩
        case measure => simp [intOf]; omega
    · have hq : ¬ ((j : Int) < (L.length : Int)) := by omega
      have e2 := Lib.hid (show R = 0 by rw [he.out, List.drop_of_length_le (by omega)]; rfl)
      have HFW := Lib.hid (bnext HB0.out hb.out)
      clear he
      go_wp2
      go_ret
      exact ⟨ret_int e2.out.symm, HFW.out⟩

end Go.Proofs.YteiicflodobpnaaGreatDoor
