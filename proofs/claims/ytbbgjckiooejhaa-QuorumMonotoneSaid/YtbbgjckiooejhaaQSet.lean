/-
  The calls of the small functions on sets of servers: has, within, size, setOf, membersOf, servers, weight. Conditions: the masks are below 65536, the lists read, the members are valid where that is named.
-/
import Derived.Test.YtbbgjckiooejhaaQView
import Derived.Laws.BitsAllLaws
import Derived.Lib.Tables
namespace Go.Proofs.Ytbbgjckiooejhaa
open Go.RowKit
open QM (Mem)

theorem wrap_pow {n : Nat} (h : n ≤ 12) : IntKind.u16.wrap ((2 : Int) ^ n) = ((2 ^ n : Nat) : Int) := by
  have h1 := QM.two_lt h
  have h2 : ((2 ^ n : Nat) : Int) = (2 : Int) ^ n := Int.natCast_pow 2 n
  rw [IntKind.wrap_u16, ← h2]
  generalize 2 ^ n = y at h1
  omega
theorem and_pow {s n : Nat} (hs : s < 65536) (h : n ≤ 12) : (bits .and .u16 (s : Int) (IntKind.u16.wrap ((2 : Int) ^ n)) != 0) = s.testBit n := by
  rw [wrap_pow h, u16_and_nat s (2 ^ n) hs (QM.two_lt h), nat_bit, Nat.testBit_eq_decide_div_mod_eq]
  have h1 := Nat.two_pow_pos n
  rcases Nat.mod_two_eq_zero_or_one (s / 2 ^ n) with h2 | h2
  · rw [h2]; simp
  · rw [h2]
    generalize 2 ^ n = y at h1
    simp; omega
theorem or_pow {s n : Nat} (hs : s < 65536) (h : n ≤ 12) : bits .or .u16 (s : Int) (IntKind.u16.wrap ((2 : Int) ^ n)) = ((s ||| 2 ^ n : Nat) : Int) := by
  rw [wrap_pow h, u16_or_nat s (2 ^ n) hs (QM.two_lt h)]
theorem or_lt {s n : Nat} (hs : s < 65536) (h : n ≤ 12) : s ||| 2 ^ n < 65536 := Nat.or_lt_two_pow (n := 16) hs (QM.two_lt h)
theorem andNot_pow {s n : Nat} (hs : s < 65536) (h : n ≤ 12) : bits .andNot .u16 (s : Int) (IntKind.u16.wrap ((2 : Int) ^ n)) = ((QM.del s n : Nat) : Int) := by
  rw [wrap_pow h, u16_andNot_nat s (2 ^ n) hs (QM.two_lt h)]; rfl
theorem andNot_dif {s t : Nat} (hs : s < 65536) (ht : t < 65536) : bits .andNot .u16 (s : Int) (t : Int) = ((QM.dif s t : Nat) : Int) := u16_andNot_nat s t hs ht

set_option maxHeartbeats 1000000 in
theorem cHas (s : Nat) (x : Int) (w : World) (hs : s < 65536) (h0 : 0 ≤ x) (hx : x ≤ 12) : Calls Try.prog 51 #[.int .u16 (s : Int), .int .i64 x] w fun e w' => e = .returned (.bool (QM.tb s x)) ∧ w = w' := by
  have h2 : x ≤ 16 := by omega
  have e := Lib.hid (and_pow hs (show x.toNat ≤ 12 by omega))
  go_enter Try.func51, Try.ntmps51
  go_wp2
  go_ret
  exact ⟨ret_bool e.out, rfl⟩

set_option maxHeartbeats 1000000 in
theorem cWithin (s t : Nat) (w : World) (hs : s < 65536) (ht : t < 65536) : Calls Try.prog 46 #[.int .u16 (s : Int), .int .u16 (t : Int)] w fun e w' => e = .returned (.bool (decide (QM.dif s t = 0))) ∧ w = w' := by
  have e := Lib.hid (andNot_dif hs ht)
  go_enter Try.func46, Try.ntmps46
  go_wp2
  go_ret
  refine ⟨ret_bool ?_, rfl⟩
  rw [e.out, Bool.eq_iff_iff]
  simp

/-- How many of the lowest eight bits are set. -/
def pc8 (n : Nat) : Nat := (List.range 8).countP fun i => n.testBit i
theorem pop8_pc : ∀ n : Fin 256, Lib.pop8 (n.val : Int) = (pc8 n.val : Int) := by decide +kernel
theorem pc8_le (n : Nat) : pc8 n ≤ 8 := Nat.le_trans List.countP_le_length (by simp)
theorem pc_join (s : Nat) : QM.pc s = pc8 (s / 256) + pc8 (s % 256) := by
  unfold QM.pc pc8
  rw [show List.range 16 = List.range 8 ++ (List.range 8).map (· + 8) by decide, List.countP_append, List.countP_map, Nat.add_comm]
  congr 1
  · refine List.countP_congr fun i _ => ?_
    show s.testBit (i + 8) = true ↔ _
    rw [show (256 : Nat) = 2 ^ 8 from rfl, Nat.testBit_div_two_pow]
  · refine List.countP_congr fun i hi => ?_
    have := List.mem_range.1 hi
    rw [show (256 : Nat) = 2 ^ 8 from rfl, Nat.testBit_mod_two_pow]
    simp [this]

set_option maxRecDepth 100000 in
set_option maxHeartbeats 1000000 in
theorem cOnes (s hi lo : Nat) (w : World) (e1 : (s : Int) / 256 = (hi : Int)) (e2 : bits .and .u16 (s : Int) 255 = (lo : Int)) (h1 : hi < 256) (h2 : lo < 256) (hp : QM.pc s = pc8 hi + pc8 lo) :
    Calls Try.prog 55 #[.int .u16 (s : Int)] w fun e w' => e = .returned (.int .i64 (QM.pc s : Int)) ∧ Below w.heap.size w w' := by
  have HP := Lib.hid hp
  clear hp
  have a1 : (0 : Int) ≤ (hi : Int) := by omega
  have a2 : (hi : Int) ≤ 255 := by omega
  have a3 : (0 : Int) ≤ (lo : Int) := by omega
  have a4 : (lo : Int) ≤ 255 := by omega
  go_enter Try.func55, Try.ntmps55
  go_wp2
  go_quiet (fail)
  go_wp2
  go_ret
  refine ⟨ret_int ?_, below_drewN _ _ _⟩
  have g1 := pop8_pc ⟨hi, h1⟩
  have g2 := pop8_pc ⟨lo, h2⟩
  have g3 := pc8_le hi
  have g4 := pc8_le lo
  simp only at g1 g2
  rw [g1, g2, HP.out]
  omega

set_option maxHeartbeats 1000000 in
theorem cSize (s : Nat) (w : World) (hs : s < 65536) : Calls Try.prog 45 #[.int .u16 (s : Int)] w fun e w' => e = .returned (.int .i64 (QM.pc s : Int)) ∧ Below w.heap.size w w' := by
  have h := fun w => cOnes s (s / 256) (s % 256) w (by omega) ((u16_and_nat s 255 hs (by decide)).trans (by rw [show (255 : Nat) = 2 ^ 8 - 1 from rfl, Nat.and_two_pow_sub_one_eq_mod s 8])) (by omega) (by omega) (pc_join s)
  generalize QM.pc s = R at h ⊢
  have H := Lib.hid h
  clear h
  go_enter Try.func45, Try.ntmps45
  go_wp2_with fail
  refine (H.out _).mono ?_
  rintro e w1 ⟨rfl, hb⟩
  go_wp2
  go_ret
  exact ⟨rfl, hb⟩

set_option maxRecDepth 100000 in
set_option maxHeartbeats 2000000 in
theorem cSetOf (v : Value) (xs : List Int) (w : World) (h : RdI w v xs) :
    Calls Try.prog 34 #[v] w fun e w' => e = .returned (.int .u16 (QM.setL xs : Int)) ∧ w = w' := by
  obtain ⟨ad, c, rfl, hc, hl⟩ := h.shape
  have H := Lib.hid h
  clear h
  obtain ⟨R, hR⟩ : ∃ R, R = QM.setL xs := ⟨_, rfl⟩
  rw [← hR]
  have HR := Lib.hid hR
  clear hR
  go_enter Try.func34, Try.ntmps34
  go_wp2
  go_loop [3, 8] (fun u i => ∃ k s : Nat, k ≤ xs.length ∧ i = .int .i64 k ∧ u = .int .u16 (s : Int) ∧ s < 65536 ∧ Hid (R = (xs.drop k).foldl QM.addS s)) (fun _ i => xs.length - (intOf i).toNat)
  case atStart => exact ⟨0, 0, Nat.zero_le _, rfl, rfl, by decide, HR.out⟩
  case round =>
    obtain ⟨k, s, hk, rfl, rfl, hs, he⟩ := hrel
    clear HR
    by_cases hlt : k < xs.length
    · obtain ⟨b, o, hi, hb, c0⟩ := atI H.out k xs[k] (List.getElem?_eq_getElem hlt)
      have hq : (k : Int) < (xs.length : Int) := by omega
      have hd := Lib.hid (drop_get hlt)
      generalize xs[k] = x at c0 hd
      have e1 := Lib.hid (show R = (xs.drop (k + 1)).foldl QM.addS (QM.addS s x) by rw [he.out, hd.out]; rfl)
      have HS := Lib.hid (fun w => cIsServer x w)
      have ha : QM.addS s x = if QM.isSrv x = true then s ||| 2 ^ x.toNat else s := rfl
      have hsr := isSrv_iff (x := x)
      clear he hd
      rw [ha] at e1
      clear ha
      generalize QM.isSrv x = sx at HS hsr e1
      cases sx
      · rw [if_neg (by decide)] at e1
        clear hsr
        go_wp2_with (go_at_call 32; refine (HS.out _).mono ?_; rintro e w2 ⟨rfl, rfl⟩)
        go_round
        case rel => exact ⟨k + 1, s, by omega, by go_num, rfl, hs, e1⟩
        case measure => simp [intOf]; omega
      · rw [if_pos rfl] at e1
        have hx := hsr.1 rfl
        obtain ⟨hx1, hx2⟩ := hx
        have hx0 : 0 ≤ x := by omega
        have hx3 : x ≤ 16 := by omega
        have e2 := Lib.hid (or_pow hs (show x.toNat ≤ 12 by omega))
        have hs2 := or_lt hs (show x.toNat ≤ 12 by omega)
        clear hsr
        go_wp2_with (go_at_call 32; refine (HS.out _).mono ?_; rintro e w2 ⟨rfl, rfl⟩)
        go_round
        case rel => exact ⟨k + 1, s ||| 2 ^ x.toNat, by omega, by go_num, by rw [e2.out], hs2, e1⟩
        case measure => simp [intOf]; omega
    · have hq : ¬ ((k : Int) < (xs.length : Int)) := by omega
      have e2 := Lib.hid (show R = s by rw [he.out, List.drop_of_length_le (by omega)]; rfl)
      clear he
      go_wp2
      go_ret
      rw [e2.out]
      exact ⟨rfl, rfl⟩

set_option maxRecDepth 100000 in
set_option maxHeartbeats 2000000 in
theorem cMembersOf (v : Value) (ms : List Mem) (p : Int) (w : World) (h : RdM w v ms) (hv : QM.Val p ms) :
    Calls Try.prog 35 #[v] w fun e w' => e = .returned (.int .u16 (QM.memL ms : Int)) ∧ Below w.heap.size w w' := by
  obtain ⟨ad, c, rfl, hc, hl⟩ := h.shape
  have H := Lib.hid h
  have HV := Lib.hid hv
  clear h hv
  obtain ⟨R, hR⟩ : ∃ R, R = QM.memL ms := ⟨_, rfl⟩
  rw [← hR]
  have HR := Lib.hid hR
  clear hR
  go_enter Try.func35, Try.ntmps35
  go_wp2
  go_loopw [3, 8] (fun u i wr => ∃ k s : Nat, k ≤ ms.length ∧ i = .int .i64 k ∧ u = .int .u16 (s : Int) ∧ s < 65536 ∧ Below w.heap.size w wr ∧ Hid (R = (ms.drop k).foldl QM.addM s)) (fun _ i _ => ms.length - (intOf i).toNat)
  case atStart => exact ⟨0, 0, Nat.zero_le _, rfl, rfl, by decide, Below.refl _ _, HR.out⟩
  case round =>
    obtain ⟨k, s, hk, rfl, rfl, hs, hbl, he⟩ := hrel
    clear HR
    have hsz := hbl.size
    by_cases hlt : k < ms.length
    · obtain ⟨b, o, hi, hb, c0, c1⟩ := atM (H.out.below hbl) k ms[k] (List.getElem?_eq_getElem hlt)
      have hq : (k : Int) < (ms.length : Int) := by omega
      have hd := Lib.hid (drop_get hlt)
      have hm := HV.out.mem ms[k] (List.getElem_mem hlt)
      have HX := Lib.hid (hbl.alloc hsz (.cells #[.int .i64 ms[k].1, .int .i64 ms[k].2] 44))
      generalize ms[k] = en at c0 c1 hd hm HX
      obtain ⟨x, n⟩ := en
      simp only at c0 c1 hm HX
      obtain ⟨_, hx1, hx2, _, _⟩ := hm
      have e1 := Lib.hid (show R = (ms.drop (k + 1)).foldl QM.addM (s ||| 2 ^ x.toNat) by rw [he.out, hd.out]; rfl)
      have hx0 : 0 ≤ x := by omega
      have hx3 : x ≤ 16 := by omega
      have e2 := Lib.hid (or_pow hs (show x.toNat ≤ 12 by omega))
      have hs2 := or_lt hs (show x.toNat ≤ 12 by omega)
      clear he hd
      go_wp2
      go_roundw
      case rel => exact ⟨k + 1, s ||| 2 ^ x.toNat, by omega, by go_num, by rw [e2.out], hs2, HX.out, e1⟩
      case measure => simp [intOf]; omega
    · have hq : ¬ ((k : Int) < (ms.length : Int)) := by omega
      have e2 := Lib.hid (show R = s by rw [he.out, List.drop_of_length_le (by omega)]; rfl)
      clear he
      go_wp2
      go_ret
      rw [e2.out]
      exact ⟨rfl, hbl⟩

theorem wt_cons (p : Int → Bool) (m : Mem) (v : List Mem) : QM.wt p (m :: v) = (if p m.1 = true then m.2 else 0) + QM.wt p v := rfl

set_option maxRecDepth 100000 in
set_option maxHeartbeats 2000000 in
theorem cWeight (v : Value) (k c f : Int) (ms : List Mem) (s : Nat) (w : World) (h : RdM w v ms) (hv : QM.Val 0 ms) (hs : s < 65536) :
    Calls Try.prog 48 #[vw v k c f, .int .u16 (s : Int)] w fun e w' => e = .returned (.int .i64 (QM.wt (QM.tb s) ms)) ∧ Below w.heap.size w w' := by
  have hlen := hv.length (Int.le_refl 0) (by decide)
  have hB := below_fresh w (.cells #[v, .int .i64 k, .int .i64 c, .int .i64 f] 26)
  have h0 := h.below hB
  obtain ⟨ad, cp, rfl, hcp, hl⟩ := h.shape
  clear h
  have H := Lib.hid h0
  have HV := Lib.hid hv
  have HB := Lib.hid hB
  clear h0 hv hB
  go_enter Try.func48, Try.ntmps48
  go_wp2
  generalize w.alloc _ = w0 at H HB ⊢
  go_loopw [5, 11] (fun u i wr => ∃ (j : Nat) (z : Int), j ≤ ms.length ∧ i = .int .i64 j ∧ u = .int .i64 z ∧ 0 ≤ z ∧ z ≤ 9 * (j : Int) ∧ Below w0.heap.size w0 wr ∧ Hid (z + QM.wt (QM.tb s) (ms.drop j) = QM.wt (QM.tb s) ms)) (fun _ i _ => ms.length - (intOf i).toNat)
  case atStart => exact ⟨0, 0, Nat.zero_le _, rfl, rfl, by omega, by omega, Below.refl _ _, (by show _ = _; simp)⟩
  case round =>
    obtain ⟨j, z, hj, rfl, rfl, hz0, hz1, hbl, he⟩ := hrel
    have hsz := hbl.size
    by_cases hlt : j < ms.length
    · obtain ⟨b, o, hi, hb, c0, c1⟩ := atM (H.out.below hbl) j ms[j] (List.getElem?_eq_getElem hlt)
      have hq : (j : Int) < (ms.length : Int) := by omega
      have hd := Lib.hid (drop_get hlt)
      have hm := HV.out.mem ms[j] (List.getElem_mem hlt)
      have HX := Lib.hid (hbl.alloc hsz (.cells #[.int .i64 ms[j].1, .int .i64 ms[j].2] 44))
      generalize ms[j] = en at c0 c1 hd hm HX
      obtain ⟨x, n⟩ := en
      simp only at c0 c1 hm HX
      obtain ⟨_, hx1, hx2, hn1, hn2⟩ := hm
      have HH := Lib.hid (fun w => cHas s x w hs (by omega) hx2)
      have e1 := Lib.hid (show z + ((if QM.tb s x = true then n else 0) + QM.wt (QM.tb s) (ms.drop (j + 1))) = QM.wt (QM.tb s) ms by rw [← he.out, hd.out]; rfl)
      clear he hd
      generalize QM.tb s x = bx at HH e1
      cases bx
      · have e2 := Lib.hid (show z + QM.wt (QM.tb s) (ms.drop (j + 1)) = QM.wt (QM.tb s) ms by have := e1.out; rw [if_neg (by decide)] at this; omega)
        clear e1
        go_wp2_with (go_at_call 51; refine (HH.out _).mono ?_; rintro e w2 ⟨rfl, rfl⟩)
        go_roundw
        case rel => exact ⟨j + 1, z, by omega, by go_num, rfl, hz0, by omega, HX.out, e2⟩
        case measure => simp [intOf]; omega
      · have e2 := Lib.hid (show z + n + QM.wt (QM.tb s) (ms.drop (j + 1)) = QM.wt (QM.tb s) ms by have := e1.out; rw [if_pos rfl] at this; omega)
        clear e1
        go_wp2_with (go_at_call 51; refine (HH.out _).mono ?_; rintro e w2 ⟨rfl, rfl⟩)
        go_roundw
        case rel => exact ⟨j + 1, z + n, by omega, by go_num, rfl, by omega, by omega, HX.out, e2⟩
        case measure => simp [intOf]; omega
    · have hq : ¬ ((j : Int) < (ms.length : Int)) := by omega
      have e2 := Lib.hid (show z = QM.wt (QM.tb s) ms by rw [← he.out, List.drop_of_length_le (by omega)]; simp [QM.wt])
      clear he
      go_wp2
      go_ret
      rw [e2.out]
      exact ⟨rfl, bnext HB.out hbl⟩

set_option maxRecDepth 100000 in
set_option maxHeartbeats 2000000 in
theorem cServers (s : Nat) (w : World) (hs : s < 65536) :
    Calls Try.prog 38 #[.int .u16 (s : Int)] w fun e w' => ∃ v', e = .returned v' ∧ OwnI w.heap.size w' v' (QM.srv s) ∧ Below w.heap.size w w' := by
  go_enter Try.func38, Try.ntmps38
  go_wp2
  go_loopw [3, 4] (fun u i wr => ∃ (j : Nat), j ≤ 12 ∧ i = .int .i64 ((j : Int) + 1) ∧ Hid (OwnI w.heap.size wr u (QM.sv s j)) ∧ Below w.heap.size w wr) (fun _ i _ => 13 - (intOf i).toNat)
  case atStart => exact ⟨0, by decide, rfl, OwnG.nil hlI _ _ _, Below.refl _ _⟩
  case round =>
    obtain ⟨j, hj, rfl, ho, hbl⟩ := hrel
    have hsz := hbl.size
    by_cases hlt : j < 12
    · have hq : (j : Int) + 1 ≤ 12 := by omega
      have hjc : (j : Int) < 12 := by omega
      have HH := Lib.hid (fun w => cHas s ((j : Int) + 1) w hs (by omega) (by omega))
      have hsv := QM.sv_succ s j
      have htb : QM.tb s ((j : Int) + 1) = s.testBit (j + 1) := rfl
      have hlen := QM.sv_length s j
      rw [htb] at HH
      clear htb
      generalize s.testBit (j + 1) = bx at HH hsv
      cases bx
      · have e1 := Lib.hid (show QM.sv s (j + 1) = QM.sv s j by rw [hsv]; simp)
        clear hsv
        go_wp2_with (go_at_call 51; refine (HH.out _).mono ?_; rintro e w2 ⟨rfl, rfl⟩)
        go_roundw
        case rel => exact ⟨j + 1, by omega, by go_num, (by show OwnI _ _ _ _; rw [e1.out]; exact ho.out), hbl⟩
        case measure => simp [intOf]; omega
      · have e1 := Lib.hid (show QM.sv s (j + 1) = QM.sv s j ++ [(j : Int) + 1] by rw [hsv]; simp)
        clear hsv
        generalize hxs : QM.sv s j = xs at ho hlen e1
        clear hxs
        go_wp2_with (first | (go_at_call 51; refine (HH.out _).mono ?_; rintro e w2 ⟨rfl, rfl⟩) | (at_builtin; refine wp_appG1 intE ((j : Int) + 1) rfl _ _ rfl rfl ho.out rfl (by omega) hsz ?_; intro v1 w1 ho1 hb1 _ _))
        have HO := Lib.hid ho1
        clear ho1 ho
        go_roundw
        case rel => exact ⟨j + 1, by omega, by go_num, (by show OwnI _ _ _ _; rw [e1.out]; exact HO.out), hbl.trans hb1⟩
        case measure => simp [intOf]; omega
    · have hq : ¬ ((j : Int) + 1 ≤ 12) := by omega
      obtain rfl : j = 12 := by omega
      go_wp2
      go_ret
      exact ⟨_, rfl, ho.out, hbl⟩

end Go.Proofs.Ytbbgjckiooejhaa
