/-
  The call of the reference's decimal: the decimal digits of a number from 0 to 9999.
-/
import Derived.Test.YteiicflodobpnaaDoorDFmt
namespace Go.Proofs.YteiicflodobpnaaDoor
open Go.RowKit Go.Joins Go.Shelf
open JM (Chg)

def dgB (d : Nat) : ByteArray := ⟨#[UInt8.ofNat (48 + d)]⟩
theorem dig_str (d : Nat) (h : d ≤ 9) (w : World) : (convert 77 9 (.slice (some ⟨w.heap.size, 0, none⟩) 1 1)).run Tryd.prog (w.alloc (.cells #[.int .u8 (48 + (d : Int))] 5)) = .ok (.string (dgB d)) (w.alloc (.cells #[.int .u8 (48 + (d : Int))] 5)) := by
  have hrd : Rd (w.alloc (.cells #[.int .u8 (48 + (d : Int))] 5)) (.slice (some ⟨w.heap.size, 0, none⟩) 1 1) [48 + (d : Int)] := by
    refine ⟨_, 1, 1, rfl, rfl, Nat.le_refl _, by unfold maxLen; omega, (fun h => by cases h), fun x hx i hi => ?_, ?_⟩
    · cases hx
      obtain rfl : i = 0 := by omega
      exact cell_of_one (heap_alloc_new w (.cells #[.int .u8 (48 + (d : Int))] 5))
    · intro y hy
      rw [List.mem_singleton] at hy
      subst hy
      constructor <;> omega
  rw [hrd.str]
  unfold strOfNums dgB
  have e : (48 + (d : Int)).toNat = 48 + d := by omega
  rw [List.map_cons, e]
  rfl
/-- What stands ahead of the digits that are written. -/
def ahead (m : Nat) : List UInt8 := if m < 10 then [] else Lib.decDigits (m / 10)
theorem ahead_step {m : Nat} (h : 10 ≤ m) : ahead m = ahead (m / 10) ++ (dgB (m / 10 % 10)).data.toList := by
  unfold ahead
  rw [if_neg (by omega)]
  by_cases h2 : m / 10 < 10
  · rw [if_pos h2, Lib.decDigits, dif_pos h2, Nat.mod_eq_of_lt h2]; rfl
  · rw [if_neg h2, DM.big_digits h2]; rfl
theorem ahead_start (m : Nat) : Lib.decDigits m = ahead m ++ (dgB (m % 10)).data.toList := by
  unfold ahead
  by_cases h2 : m < 10
  · rw [if_pos h2, Lib.decDigits, dif_pos h2, Nat.mod_eq_of_lt h2]; rfl
  · rw [if_neg h2, DM.big_digits h2]; rfl
theorem dig_len {N : Nat} (hN : N ≤ 9999) : (Lib.decDigits N).length ≤ 4 := by
  have h := (DM.isN_itoa (n := N) hN).1
  unfold DM.isN at h
  simp only [Bool.and_eq_true, decide_eq_true_eq] at h
  exact h.1.2.1

set_option maxRecDepth 100000 in
set_option maxHeartbeats 1000000 in
theorem rDecimal (N : Nat) (w : World) (hN : N ≤ 9999) : Calls Tryd.prog 23 #[.int .i64 N] w fun e w' => ∃ S : ByteArray, e = .returned (.string S) ∧ (S.data.toList = Lib.decDigits N ∧ S.size ≤ 4) ∧ Below w.heap.size w w' := by
  have hl := dig_len hN
  have hs := ahead_start N
  obtain ⟨d, hd⟩ : ∃ d : Nat, d = N % 10 := ⟨_, rfl⟩
  have hd2 : (N : Int) % 10 = (d : Int) := by omega
  have hd9 : d ≤ 9 := by omega
  rw [← hd] at hs
  have hc := dig_str d hd9 w
  have HL := Lib.hid hl
  have HS := Lib.hid hs
  have HN := Lib.hid hN
  have hb := below_fresh w (.cells #[.int .u8 (48 + (d : Int))] 5)
  clear hl hs hd hN
  go_enter Tryd.func23, Tryd.ntmps23
  go_wp2
  obtain ⟨T0, hT0⟩ : ∃ T0, T0 = dgB d := ⟨_, rfl⟩
  have hz0 : T0.size ≤ 4 := by rw [hT0]; exact (by decide : (1 : Nat) ≤ 4)
  rw [← hT0] at hc HS ⊢
  have HB := Lib.hid hb
  clear hb hT0
  go_loopw [0, 3] (fun n s wr => ∃ (m : Nat) (T : ByteArray), n = .int .i64 m ∧ s = .string T ∧ m ≤ 9999 ∧ Below w.heap.size w wr ∧ Hid (Lib.decDigits N = ahead m ++ T.data.toList) ∧ T.size ≤ 4) (fun n _ _ => (intOf n).toNat)
  case atStart => exact ⟨N, T0, rfl, rfl, HN.out, HB.out, HS, hz0⟩
  case round =>
    obtain ⟨m, T, rfl, rfl, hm, hbl, he, hz⟩ := hrel
    clear hc hd2 hd9 hz0 HB HS HN
    by_cases h10 : 10 ≤ m
    · have hq : (10 : Int) ≤ (m : Int) := by omega
      have hst := ahead_step h10
      obtain ⟨m', hm'⟩ : ∃ m', m' = m / 10 := ⟨_, rfl⟩
      obtain ⟨d', hd'⟩ : ∃ d', d' = m' % 10 := ⟨_, rfl⟩
      rw [← hm', ← hd'] at hst
      have e1 : (m : Int) / 10 = (m' : Int) := by omega
      have e2 : (m' : Int) % 10 = (d' : Int) := by omega
      have hc' := dig_str d' (by omega) wr
      have hb' := below_fresh wr (.cells #[.int .u8 (48 + (d' : Int))] 5)
      have hd9 : d' ≤ 9 := by omega
      obtain ⟨D, hD⟩ : ∃ D, D = dgB d' := ⟨_, rfl⟩
      have hDz : D.size = 1 := by rw [hD]; rfl
      rw [← hD] at hc' hst
      have HST := Lib.hid (show Lib.decDigits N = ahead m' ++ (D ++ T).data.toList by rw [he.out, hst]; simp)
      have HB' := Lib.hid (bnext hbl hb')
      have HM := Lib.hid (show m' ≤ 9999 ∧ m' < m by omega)
      clear hst hm' hd' hD hb' h10 he
      go_wp2
      go_roundw
      case rel => exact ⟨m', D ++ T, rfl, rfl, HM.out.1, HB'.out, HST, by
        have h1 := congrArg List.length HST.out
        have h2 := HL.out
        rw [List.length_append] at h1
        have h3 : (D ++ T).data.toList.length = (D ++ T).size := by simp
        omega⟩
      case measure => have := HM.out.2; simp [intOf]; omega
    · have hq : ¬ (10 : Int) ≤ (m : Int) := by omega
      have HE := Lib.hid (show T.data.toList = Lib.decDigits N by rw [he.out]; unfold ahead; rw [if_pos (by omega)]; rfl)
      clear he
      go_wp2
      go_ret
      exact ⟨T, rfl, ⟨HE.out, hz⟩, hbl⟩

end Go.Proofs.YteiicflodobpnaaDoor
