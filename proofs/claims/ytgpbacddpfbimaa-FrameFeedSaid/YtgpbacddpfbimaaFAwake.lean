/-
  The call of the laws' own awake in elasticstorelaw02: it returns true and leaves all that was there as it was. No conditions.
-/
import Derived.Lib.SlBytesConst
import Derived.Test.YtgpbacddpfbimaaFrame
namespace Go.Proofs.Ytgpbacddpfbimaa
open Go.RowKit
open WM (Bytes)

theorem rd_fresh (w : World) (xs : List Int) (h : Bytes xs) (hl : xs.length ≤ maxLen) : Rd (w.alloc (.cells (xs.map (Value.int .u8)).toArray 5)) (.slice (some ⟨w.heap.size, 0, none⟩) xs.length xs.length) xs := by
  have ho := own_fresh w (xs.map (Value.int .u8)) 5 (by rw [List.length_map]; exact hl)
  rw [List.length_map] at ho
  exact Own.rd (base := w.heap.size) ⟨ho, h⟩
theorem rd_mark (w : World) (xs : List Int) (fr : Nat × Nat) (h : Bytes xs) (hl : xs.length ≤ maxLen) : Rd (w.alloc (.cells (xs.map (Value.int .u8)).toArray 5 fr)) (.slice (some ⟨w.heap.size, 0, none⟩) xs.length xs.length) xs := by
  refine ⟨_, _, _, rfl, rfl, Nat.le_refl _, hl, fun h => (by cases h), fun x hx i hi => ?_, h⟩
  cases hx
  rw [addr_plain, Nat.zero_add, World.cell?_alloc_mark]
  simp [List.getD, List.getElem?_eq_getElem hi]
theorem below_fresh (w : World) (o : Obj) : Below w.heap.size w (w.alloc o) := (Below.refl _ w).alloc (Nat.le_refl _) _

theorem bytes_ab : Bytes [97, 98] := by intro c hc; simp at hc; unfold WM.isByte; omega
theorem bytes_nine : Bytes [49, 50, 51, 52, 53, 54, 55, 56, 57] := by intro c hc; simp at hc; unfold WM.isByte; omega

set_option maxRecDepth 100000 in
set_option maxHeartbeats 1000000 in
theorem awake2 (w : World) : Calls Try.prog 13 #[] w fun e w' => e = .returned (.bool true) ∧ Below w.heap.size w w' := by
  have h1 := rd_mark w [97, 98] (2, 3) bytes_ab (by simp [maxLen])
  have hb1 := below_fresh w (.cells #[.int .u8 97, .int .u8 98] 5 (2, 3))
  have hk := Lib.run_convert_bytes_const (P := Try.prog) w 22 5 #[.int .u8 97, .int .u8 98] 2 2 Try.underlying22 Try.underlying5
  have happ := wAppend (.slice none 0 0) _ [] [97, 98] _ (Rd.nil _) h1 (by simp) (by simp)
  clear h1
  rw [List.nil_append] at happ
  go_enter Try.func13, Try.ntmps13
  go_wp2_with fail
  refine happ.mono ?_
  rintro e w1 ⟨v1, rfl, ho1, hb2⟩
  clear happ
  have hb3 := hb1.trans (hb2.mono hb1.size)
  have hfl := FM.frame_length [97, 98]
  have hr1 := ho1.rd
  clear ho1 hb1 hb2
  have hdec := FM.dec_frame [97, 98] bytes_ab (by simp) []
  rw [List.append_nil] at hdec
  have hd := wDecode v1 _ w1 hr1 (by rw [hfl]; simp)
  rw [hdec] at hd
  obtain ⟨a1, c1, rfl, hc1⟩ := hr1.shape
  clear hdec hr1
  rw [hfl] at hd
  go_wp2_with fail
  refine hd.mono ?_
  rintro e w2 ⟨v2, rfl, ho2, hb4⟩
  clear hd
  have hb5 := hb3.trans (hb4.mono hb3.size)
  have hr2 := ho2.rd
  clear ho2 hb3 hb4
  obtain ⟨a2, c2, rfl, hc2⟩ := hr2.shape
  have hn := below_fresh w2 (.cells #[.int .u8 49, .int .u8 50, .int .u8 51, .int .u8 52, .int .u8 53, .int .u8 54, .int .u8 55, .int .u8 56, .int .u8 57] 5 (9, 10))
  have hk2 := Lib.run_convert_bytes_const (P := Try.prog) w2 22 5 #[.int .u8 49, .int .u8 50, .int .u8 51, .int .u8 52, .int .u8 53, .int .u8 54, .int .u8 55, .int .u8 56, .int .u8 57] 9 9 Try.underlying22 Try.underlying5
  have hck := wChecksum _ _ _ (rd_mark w2 [49, 50, 51, 52, 53, 54, 55, 56, 57] (9, 10) bytes_nine (by simp [maxLen]))
  rw [FM.crc_nine] at hck
  have hst : (convert 22 9 (.slice a2 2 c2)).run Try.prog (w2.alloc (.cells #[.int .u8 49, .int .u8 50, .int .u8 51, .int .u8 52, .int .u8 53, .int .u8 54, .int .u8 55, .int .u8 56, .int .u8 57] 5 (9, 10))) = .ok (.string ⟨#[97, 98]⟩) _ := (hr2.below hn).str
  have hb6 := hb5.trans (hn.mono hb5.size)
  clear hr2 hb5 hn
  go_wp2_with fail
  refine hck.mono ?_
  rintro e w3 ⟨rfl, rfl⟩
  clear hck
  go_wp2
  go_ret
  exact ⟨rfl, hb6⟩

end Go.Proofs.Ytgpbacddpfbimaa
