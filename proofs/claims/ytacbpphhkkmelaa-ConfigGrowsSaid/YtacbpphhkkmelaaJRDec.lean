/-
  The calls of the reference's Number, Read and DecodeProposal: each returns what the plain mathematics says of the bytes. Conditions: the slice reads as bytes.
-/
import Derived.Deep.RegionHeld3
import Derived.Deep.CutRange
import Derived.Test.YtacbpphhkkmelaaReg
import Derived.Test.YtacbpphhkkmelaaJPropR
import Derived.Test.YtacbpphhkkmelaaJDec
namespace Go.Proofs.Ytacbpphhkkmelaa
open Go.RowKit
open JM (Chg St)

set_option maxRecDepth 100000 in
set_option maxHeartbeats 2000000 in
theorem rNumber (v : Value) (xs : List Int) (w : World) (h : Rd w v xs) :
    Calls Try.prog 100 #[v] w fun e w' => e = .returned (.tuple #[.int .i64 (JM.num xs).1, .int .i64 (JM.num xs).2.1, .int .i64 (JM.num xs).2.2]) ∧ w = w' := by
  have hby := h.bytes
  have hu := rUint v xs w h
  rcases WM.dec_two xs hby with ⟨e1, he1, hd⟩ | ⟨m, hm, hd, hml, _⟩
  · have hn : JM.num xs = (0, 0, e1) := by unfold JM.num; rw [hd]; simp only [ne_eq]; rw [if_pos (show ¬ e1 = 0 by omega)]
    rw [hn]
    rw [hd] at hu
    have HU := Lib.hid hu
    have hne : (e1 != 0) = true := bne_t (by omega)
    clear hu hn hd he1 h hby
    go_enter Try.func100, Try.ntmps100
    go_wp2_with fail
    refine HU.out.mono ?_
    rintro e w1 ⟨rfl, rfl⟩
    go_wp2
    go_ret3
    exact ⟨rfl, rfl⟩
  · rw [hd] at hu
    by_cases hbig : 2147483647 < (m : Int)
    · have hn : JM.num xs = (0, 0, 9) := by unfold JM.num; rw [hd]; simp [hbig]
      rw [hn]
      have HU := Lib.hid hu
      clear hu hn hd h hby hml hm
      go_enter Try.func100, Try.ntmps100
      go_wp2_with fail
      refine HU.out.mono ?_
      rintro e w1 ⟨rfl, rfl⟩
      go_wp2
      go_ret3
      exact ⟨rfl, rfl⟩
    · have hn : JM.num xs = ((m : Int), ((WM.enc m).length : Int), 0) := by unfold JM.num; rw [hd]; simp [hbig]
      rw [hn]
      have HU := Lib.hid hu
      have hm31 : (m : Int) ≤ 2147483647 := by omega
      have hbig : decide (2147483647 < (m : Int)) = false := decide_eq_false hbig
      have hw2 : IntKind.i64.wrap (m : Int) = (m : Int) := IntWalk.i64_in _ (by omega)
      clear hu hn hd h hby hml hm
      generalize (WM.enc m).length = L at HU
      go_enter Try.func100, Try.ntmps100
      go_wp2_with fail
      refine HU.out.mono ?_
      rintro e w1 ⟨rfl, rfl⟩
      go_wp2
      go_ret3
      exact ⟨rfl, rfl⟩

/-- One step of the reader, read as a number of what is left. -/
theorem step_num {xs : List Int} {u : Nat} : JM.step xs (u, 0) = if (JM.num (xs.drop u)).2.2 ≠ 0 then (0, (u, (JM.num (xs.drop u)).2.2)) else ((JM.num (xs.drop u)).1, (u + (JM.num (xs.drop u)).2.1.toNat, 0)) := if_neg (fun h => h rfl)

set_option maxRecDepth 100000 in
set_option maxHeartbeats 2000000 in
theorem rRead (v : Value) (xs : List Int) (n : Nat) (w : World) (h : Rd w v xs) (hn : n ≤ 1000) :
    Calls Try.prog 91 #[v, .int .i64 (n : Int)] w fun e w' =>
      ((JM.many xs (0, 0) n).2.2 ≠ 0 ∧ e = .returned (.tuple #[.slice none 0 0, .int .i64 0, .int .i64 (JM.many xs (0, 0) n).2.2]) ∧ Below w.heap.size w w') ∨
      ((JM.many xs (0, 0) n).2.2 = 0 ∧ ∃ v', e = .returned (.tuple #[v', .int .i64 ((JM.many xs (0, 0) n).2.1 : Int), .int .i64 0]) ∧ OwnI w.heap.size w' v' (JM.many xs (0, 0) n).1 ∧ Below w.heap.size w w') := by
  have hby := h.bytes
  obtain ⟨ad, cp, rfl, hcp⟩ := h.shape
  have hxl : xs.length ≤ 9223372036854775807 := by
    obtain ⟨_, _, _, _, hn1, hn2, hcm, _⟩ := h
    unfold maxLen at hcm
    omega
  have HV := Lib.hid h
  have HBY := Lib.hid hby
  have HN := Lib.hid hn
  clear h hby hn
  go_enter Try.func91, Try.ntmps91
  go_wp2
  go_loopw [7, 8, 9] (fun u at_ i wr => ∃ (k at1 : Nat), k ≤ n ∧ i = .int .i64 k ∧ at_ = .int .i64 (at1 : Int) ∧ Hid ((JM.many xs (0, 0) k).2 = (at1, 0)) ∧ Hid (OwnI w.heap.size wr u (JM.many xs (0, 0) k).1) ∧ Hid (Below w.heap.size w wr)) (fun _ _ i _ => n - (intOf i).toNat)
  case atStart => exact ⟨0, 0, Nat.zero_le _, rfl, rfl, rfl, OwnG.nil hlI _ _ _, Below.refl _ _⟩
  case round =>
    obtain ⟨k, at1, hk, rfl, rfl, hst, ho, hbl⟩ := hrel
    by_cases hlt : k < n
    · have hq : (k : Int) < (n : Int) := by omega
      have hul : at1 ≤ xs.length := by
        have := (JM.many_small xs (0, 0) HBY.out (Nat.zero_le _) k).2
        rw [hst.out] at this; exact this
      have hrd := HV.out.below hbl.out
      obtain ⟨v2, hcut, hrd2⟩ := hrd.cutL at1 hul
      have hnum := rNumber v2 _ wr hrd2
      have hstep : JM.many xs (0, 0) (k + 1) = ((JM.many xs (0, 0) k).1 ++ [(JM.step xs (at1, 0)).1], (JM.step xs (at1, 0)).2) := by
        show (_, _) = (_, _); rw [hst.out]
      rw [step_num] at hstep
      rcases JM.num_two (xs.drop at1) hrd2.bytes with ⟨e1, he1, hd⟩ | ⟨m, hm, hd, hml⟩
      · rw [hd] at hnum hstep
        have hs2 : (JM.many xs (0, 0) (k + 1)).2 = (at1, e1) := by rw [hstep]; simp only [ne_eq]; rw [if_pos (show ¬ e1 = 0 by omega)]
        have hfin : (JM.many xs (0, 0) n).2 = (at1, e1) := by rw [JM.many_err_le (by omega : k + 1 ≤ n) (by rw [hs2]; simp; omega), hs2]
        have HNUM := Lib.hid hnum
        have HFIN := Lib.hid hfin
        have hne : (e1 != 0) = true := bne_t (by omega)
        have HE := Lib.hid (show e1 ≠ 0 by omega)
        clear hstep hs2 hfin hd he1 hnum hrd hrd2 hst ho
        go_wp2_with fail
        refine HNUM.out.mono ?_
        rintro e w2 ⟨rfl, rfl⟩
        clear HNUM
        go_wp2
        go_ret3
        rw [HFIN.out]
        exact .inl ⟨HE.out, rfl, hbl.out⟩
      · rw [hd] at hnum hstep
        have hs1 : (JM.many xs (0, 0) (k + 1)).1 = (JM.many xs (0, 0) k).1 ++ [(m : Int)] := by rw [hstep]; simp
        have hs2 : (JM.many xs (0, 0) (k + 1)).2 = (at1 + (WM.enc m).length, 0) := by rw [hstep]; simp
        have hlk := JM.many_length xs (0, 0) k
        rw [List.length_drop] at hml
        have hel := WM.enc_len10 m (by omega)
        have hw1 : (at1 : Int) + ((WM.enc m).length : Int) ≤ 9223372036854775807 := by omega
        have HSUM := Lib.hid (show (at1 : Int) + ((WM.enc m).length : Int) = ((at1 + (WM.enc m).length : Nat) : Int) by omega)
        have HNUM := Lib.hid hnum
        have HS1 := Lib.hid hs1
        have HS2 := Lib.hid hs2
        have HLK := Lib.hid (show (JM.many xs (0, 0) k).1.length ≤ 1073741824 by rw [hlk]; have := HN.out; omega)
        have hsz := hbl.out.size
        have hm31 : (m : Int) ≤ 2147483647 := by omega
        clear hstep hs1 hs2 hlk hd hnum hrd hrd2 hst hml hel hm hul
        generalize (WM.enc m).length = L at HNUM hw1 HSUM HS2
        have hn1000 : n ≤ 1000 := HN.out
        go_wp2_with (first
          | (go_at_call 100; refine HNUM.out.mono ?_; rintro e w2 ⟨rfl, rfl⟩)
          | (at_builtin; refine wp_appG1 intE (m : Int) rfl _ _ rfl rfl ho.out rfl HLK.out hsz ?_; intro v5 w5 ho5 hb5 _ _))
        have HO5 := Lib.hid (show OwnI w.heap.size w5 v5 (JM.many xs (0, 0) (k + 1)).1 by rw [HS1.out]; exact ho5)
        have HB5 := Lib.hid (hbl.out.trans hb5)
        clear ho5 hb5 ho hbl HNUM HS1 HLK hsz
        rw [HSUM.out]
        go_roundw
        case rel => exact ⟨k + 1, at1 + L, by omega, by go_num, rfl, HS2, HO5, HB5⟩
        case measure => simp [intOf]; omega
    · have hq : ¬ (k : Int) < (n : Int) := by omega
      obtain rfl : k = n := by omega
      go_wp2
      go_ret3
      rw [hst.out]
      exact .inr ⟨rfl, _, rfl, ho.out, hbl.out⟩

/-- A list of the call's own stays where another type's blocks grow or are written. -/
theorem ownG_keep {α : Type} {enc : α → List Value} {e e' : TypeId} {size base : Nat} {w w' : World} {v : Value} {ys : List α} (h : OwnG enc e size base w v ys) (hk : KeepsX e' w w') (he : e ≠ e') : OwnG enc e size base w' v ys := by
  refine ⟨⟨h.1.1, ?_⟩, h.2⟩
  rcases h.1.2 with h6 | ⟨gg, cap, cur, hv, hgg, hh, r⟩
  · exact .inl h6
  · exact .inr ⟨gg, cap, cur, hv, hgg, hk.at hh he, r⟩
theorem ownG_only {α : Type} {enc : α → List Value} {e t : TypeId} {size base : Nat} {w w' : World} {v : Value} {ys : List α} {B : Nat} {cur : Array Value} {fr : Nat × Nat} (h : OwnG enc e size base w v ys) (hB : w.heap[B]? = some (.cells cur t fr)) (ht : t ≠ e) (ho : Only B w w') : OwnG enc e size base w' v ys := by
  refine ⟨⟨h.1.1, ?_⟩, h.2⟩
  rcases h.1.2 with h6 | ⟨gg, cap, cur', hv, hgg, hh, r⟩
  · exact .inl h6
  · exact .inr ⟨gg, cap, cur', hv, hgg, ho.at hh (by rintro rfl; rw [hB] at hh; injection hh with hh; injection hh with _ ht'; exact ht ht'), r⟩

/-- Reading on at u is reading what is left from its beginning. -/
theorem step_shift (xs : List Int) (u d : Nat) (e : Int) : JM.step xs (u + d, e) = ((JM.step (xs.drop u) (d, e)).1, (u + (JM.step (xs.drop u) (d, e)).2.1, (JM.step (xs.drop u) (d, e)).2.2)) := by
  unfold JM.step
  simp only [List.drop_drop]
  split
  · rfl
  · split
    · rfl
    · simp [Nat.add_assoc]
theorem many_shift (xs : List Int) (u : Nat) (k : Nat) : JM.many xs (u, 0) k = ((JM.many (xs.drop u) (0, 0) k).1, (u + (JM.many (xs.drop u) (0, 0) k).2.1, (JM.many (xs.drop u) (0, 0) k).2.2)) := by
  induction k with
  | zero => rfl
  | succ k ih =>
    simp only [JM.many]
    rw [ih]
    simp only
    rw [step_shift xs u (JM.many (xs.drop u) (0, 0) k).2.1 (JM.many (xs.drop u) (0, 0) k).2.2]

end Go.Proofs.Ytacbpphhkkmelaa
