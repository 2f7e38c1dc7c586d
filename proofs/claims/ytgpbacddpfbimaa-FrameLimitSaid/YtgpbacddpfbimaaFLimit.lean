/-
  The walk of the law FrameLimit: it returns true. No conditions.
-/
import Derived.Test.YtgpbacddpfbimaaFAwake
import Derived.Test.YtgpbacddpfbimaaSet
namespace Go.Proofs.Ytgpbacddpfbimaa
open Go.RowKit
open WM (Bytes)

/-- 'make([]byte, n)'. -/
theorem make_bytes (w : World) (n : Nat) (hn : n ≤ 70368744177664) :
    ∃ w', (Instr.makeSlice 22 (.int .i64 (n : Int)) (.int .i64 (n : Int))).run Try.prog w = .ok (.slice (some ⟨w.heap.size, 0, none⟩) n n) w' ∧
      Own w.heap.size w' (.slice (some ⟨w.heap.size, 0, none⟩) n n) (List.replicate n 0) ∧ Below w.heap.size w w' := by
  obtain ⟨i0, hi, hz0, hz1, hz2⟩ := info_parts infoU8
  obtain ⟨w', h1, h2, h3⟩ := run_make_full (P := Try.prog) w w.heap.size 22 5 i0 (.int .u8 0) 1 Try.underlying22 hi hz0 hz1 .i64 .i64 n (by rw [hz2]; omega) (by unfold maxLen; omega) (Nat.le_refl _)
  refine ⟨w', h1, ⟨?_, ?_⟩, (Below.refl _ w).grown h3 (Nat.le_refl _) (fun k hk => by cases hk)⟩
  · rw [List.length_replicate, List.map_replicate]
    have e : (madeCells (Value.int IntKind.u8 0).cells (n * 1)).toList = List.replicate n (Value.int .u8 0) := by
      simp only [madeCells, Array.toList_map, Array.toList_range]
      refine List.eq_replicate_iff.2 ⟨by simp, ?_⟩
      intro b hb
      obtain ⟨x, _, rfl⟩ := List.mem_map.1 hb
      show #[Value.int IntKind.u8 0][x % 1]! = _
      rw [Nat.mod_one]
      rfl
    rw [← e]
    exact h2
  · intro c hc
    obtain ⟨_, rfl⟩ := List.mem_replicate.1 hc
    exact ⟨by decide, by decide⟩

set_option maxRecDepth 100000 in
set_option maxHeartbeats 1000000 in
theorem lLimit (f m : Nat) (w : World) (hf : f < 256) :
    Calls Try.prog 6 #[.int .u8 f, .int .u8 m] w fun e w' => e = .returned (.bool true) ∧ Below w.heap.size w w' := by
  have hr : m % 3 < 3 := Nat.mod_lt _ (by decide)
  have hrem : Int.tmod (m : Int) 3 = ((m % 3 : Nat) : Int) := rfl
  generalize m % 3 = r at hr hrem
  obtain ⟨L, hL⟩ : ∃ L, L = 65536 + r := ⟨_, rfl⟩
  have hL2 : (65536 : Int) + (r : Int) = (L : Int) := by omega
  have hLa : 65536 ≤ L := by omega
  have hLb : L ≤ 65538 := by omega
  clear hL
  obtain ⟨w1, hmk, ho1, hb1⟩ := make_bytes w L (by omega)
  have hbf : WM.isByte (f : Int) := ⟨by omega, by omega⟩
  have hl1 := List.length_replicate (n := L) (a := (0 : Int))
  generalize List.replicate L (0 : Int) = zs at ho1 hl1
  go_enter Try.func6, Try.ntmps6
  go_wp2_with fail
  go_loopw [6] (fun i wr => ∃ (k : Nat) (xs : List Int), k ≤ L ∧ i = .int .i64 k ∧ Hid (xs.length = L) ∧ Own w.heap.size wr (.slice (some ⟨w.heap.size, 0, none⟩) L L) xs ∧ Below w.heap.size w wr) (fun i _ => L - (intOf i).toNat)
  case atStart => exact ⟨0, zs, by omega, rfl, hl1, ho1, hb1⟩
  case round =>
    obtain ⟨k, xs, hk, rfl, hl, ho, hb⟩ := hrel
    by_cases hkl : k = L
    · subst hkl
      by_cases h6 : k = 65536
      · have hx := hl.out
        have hpb := ho.rd.bytes
        have h1 := wAppend (.slice none 0 0) _ [] xs wr (Rd.nil wr) ho.rd (by omega) (by simp)
        rw [List.nil_append] at h1
        have hfl := FM.frame_length xs
        have hdec := FM.dec_frame xs hpb (by omega) []
        rw [List.append_nil] at hdec
        have hq : ¬ ((65536 : Int) < (k : Int)) := by omega
        clear ho hpb hbf h6
        go_wp2_with fail
        refine h1.mono ?_
        rintro e w2 ⟨v2, rfl, ho2, hb2⟩
        have hb3 := hb.trans (hb2.mono hb.size)
        have hd := wDecode v2 _ w2 ho2.rd (by omega)
        obtain ⟨a2, c2, rfl, hc2⟩ := ho2.rd.shape
        rw [hdec, hfl, hx] at hd
        rw [hfl, hx]
        clear h1 ho2 hb2 hb hdec
        go_wp2_with fail
        refine hd.mono ?_
        rintro e w3 ⟨v3, rfl, ho3, hb4⟩
        have hb5 := hb3.trans (hb4.mono hb3.size)
        obtain ⟨a3, c3, rfl, hc3⟩ := ho3.rd.shape
        clear hd ho3 hb3 hb4
        rw [hx]
        go_wp2
        go_ret
        exact ⟨rfl, hb5⟩
      · have hx := hl.out
        have h1 := wAppendLong (.slice none 0 0) _ xs wr ho.rd (by omega)
        clear ho hbf
        go_wp2_with fail
        refine h1.mono ?_
        rintro e w2 ⟨rfl, rfl⟩
        clear h1
        have hq : (65536 : Int) < (k : Int) := by omega
        go_wp2_with fail
        refine (awake2 _).mono ?_
        rintro e w3 ⟨rfl, hb2⟩
        go_wp2
        go_ret
        exact ⟨rfl, hb.trans (hb2.mono hb.size)⟩
    · have hlt : k < L := by omega
      have hq : (k : Int) < (L : Int) := by omega
      have hcell := ho
      rw [← hl.out] at hcell
      obtain ⟨hc, hfz, ho2, hb2⟩ := hcell.put (k := k) (by rw [hl.out]; exact hlt) hbf
      clear hcell
      rw [hl.out] at ho2
      have hb3 := hb.trans hb2
      have hl3 := Lib.hid (show (xs.set k (f : Int)).length = L by rw [List.length_set]; exact hl.out)
      clear ho hb hb2
      go_wp2
      go_roundw
      case rel => exact ⟨k + 1, _, by omega, by go_num, hl3, ho2, hb3⟩
      case measure => simp [intOf]; omega

end Go.Proofs.Ytgpbacddpfbimaa
