/-
  The call of elasticstorelaw01.awake returns true; it makes memory of its own and turns nothing that was there. No conditions.
-/
import Derived.Test.YtipjifdjgipocaaInt
import Derived.Test.YtipjifdjgipocaaStr
namespace Go.Proofs.Ytipjifdjgipocaa
open Go.RowKit
open WM (Bytes enc dec zig zag)

theorem enc300 : enc 300 = [172, 2] := by rw [WM.enc_big (by omega), WM.enc_small (by omega)]; rfl
theorem enc3 : enc 3 = [3] := WM.enc_small (by omega)
theorem enc2 : enc 2 = [2] := WM.enc_small (by omega)

theorem aw1 (w : World) : Calls Try.prog 14 #[.slice none 0 0, .int .u64 300] w fun e w' => ∃ v', e = .returned v' ∧ Own w.heap.size w' v' [172, 2] ∧ Below w.heap.size w w' := by
  have h := wAppendUint _ [] 300 w (Rd.nil w) (by simp) (by omega)
  rw [enc300] at h
  exact h
theorem aw2 (v : Value) (w : World) (h : Rd w v [172, 2]) : Calls Try.prog 16 #[v] w fun e w' => e = .returned (.tuple #[.int .u64 300, .int .i64 2, .int .i64 0]) ∧ w = w' := by
  have h := wUint v _ w h
  rw [show dec 0 0 [172, 2] = (300, 2, 0) from by simp [dec]] at h
  exact h
theorem aw3 (w : World) : Calls Try.prog 18 #[.slice none 0 0, .int .i64 (-2)] w fun e w' => ∃ v', e = .returned v' ∧ Own w.heap.size w' v' [3] ∧ Below w.heap.size w w' := by
  have h := wAppendInt _ [] (-2) w (Rd.nil w) (by simp) (by omega) (by omega)
  rw [show zig (-2) = 3 from by decide, enc3] at h
  exact h
theorem aw4 (v : Value) (w : World) (h : Rd w v [3]) : Calls Try.prog 19 #[v] w fun e w' => e = .returned (.tuple #[.int .i64 (-2), .int .i64 1, .int .i64 0]) ∧ w = w' := by
  have h := wInt v _ w h
  rw [show dec 0 0 [3] = (3, 1, 0) from by simp [dec], show zag (3, 1, 0).1 = -2 from by decide] at h
  exact h
theorem aw5 (w : World) : Calls Try.prog 22 #[.slice none 0 0, .string ⟨#[97, 98]⟩] w fun e w' => ∃ v', e = .returned v' ∧ Own w.heap.size w' v' [2, 97, 98] ∧ Below w.heap.size w w' := by
  have h := wAppendString _ [] ⟨#[97, 98]⟩ w (Rd.nil w) (by simp) (by decide)
  rw [show (⟨#[97, 98]⟩ : ByteArray).size = 2 from rfl, enc2] at h
  exact h
theorem aw6 (v : Value) (w : World) (h : Rd w v [2, 97, 98]) : Calls Try.prog 23 #[v] w fun e w' => e = .returned (.tuple #[.string ⟨#[97, 98]⟩, .int .i64 3, .int .i64 0]) ∧ w = w' := by
  have h := wString v _ w h
  rw [show decS [2, 97, 98] = ([97, 98], 3, 0) from by simp [decS, dec]] at h
  exact h
theorem aw7 (w : World) : Calls Try.prog 28 #[.slice none 0 0, .bool true] w fun e w' => ∃ v', e = .returned v' ∧ Own w.heap.size w' v' [1] ∧ Below w.heap.size w w' :=
  wAppendBool _ [] true w (Rd.nil w) (by simp)
theorem aw8 (v : Value) (w : World) (h : Rd w v [1]) : Calls Try.prog 26 #[v] w fun e w' => e = .returned (.tuple #[.bool true, .int .i64 1, .int .i64 0]) ∧ w = w' :=
  wBool v _ w h

set_option maxRecDepth 100000 in
set_option maxHeartbeats 1000000 in
theorem awake_any (w : World) : Calls Try.prog 13 #[] w fun e w' => e = .returned (.bool true) ∧ Below w.heap.size w w' := by
  go_enter Try.func13, Try.ntmps13
  go_wp2_with fail
  refine (aw1 _).mono ?_
  rintro e w1 ⟨v1, rfl, ho, hb⟩
  have hr := ho.rd
  clear ho
  go_wp2_with fail
  refine (aw2 _ _ hr).mono ?_
  rintro e w2 ⟨rfl, rfl⟩
  clear hr
  go_wp2_with fail
  refine (aw3 _).mono ?_
  rintro e w2 ⟨v1, rfl, ho, hb2⟩
  have hr := ho.rd
  have hb := hb.trans (hb2.mono hb.size)
  clear ho hb2
  go_wp2_with fail
  refine (aw4 _ _ hr).mono ?_
  rintro e w3 ⟨rfl, rfl⟩
  clear hr
  go_wp2_with fail
  refine (aw5 _).mono ?_
  rintro e w3 ⟨v1, rfl, ho, hb2⟩
  have hr := ho.rd
  have hb := hb.trans (hb2.mono hb.size)
  clear ho hb2
  go_wp2_with fail
  refine (aw6 _ _ hr).mono ?_
  rintro e w4 ⟨rfl, rfl⟩
  clear hr
  go_wp2_with fail
  refine (aw7 _).mono ?_
  rintro e w4 ⟨v1, rfl, ho, hb2⟩
  have hr := ho.rd
  have hb := hb.trans (hb2.mono hb.size)
  clear ho hb2
  go_wp2_with fail
  refine (aw8 _ _ hr).mono ?_
  rintro e w5 ⟨rfl, rfl⟩
  clear hr
  go_wp2
  go_ret
  exact ⟨rfl, hb⟩

end Go.Proofs.Ytipjifdjgipocaa
