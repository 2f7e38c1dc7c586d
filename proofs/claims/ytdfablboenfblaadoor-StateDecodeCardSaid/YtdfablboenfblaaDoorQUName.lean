/-
  The call of update.nameSize: it returns the number of the name's bytes, or, above 16, some number above 16. Conditions: the two tables of unicode/utf8 hold what their initialisers lay; the name is no longer than a slice may be.
-/
import Derived.Test.YtdfablboenfblaaDoorQUShelf
import Derived.Test.YtdfablboenfblaaDoorQUR
import Derived.Laws.RangeAny
namespace Go.Proofs.YtdfablboenfblaaDoor
open Go.RowKit

/-- The two tables of unicode/utf8 are laid. -/
def Tb (w : World) : Prop := Lib.Utf8Tabs (Tryd.decR_ren.g 3) (Tryd.decR_ren.g 4) w
theorem Tb.below {w w' : World} (h : Tb w) (hb : Below w.heap.size w w') : Tb w' := Utf8Tabs_below h hb
namespace UM
/-- The width of the rune that begins at a place. -/
def wd (s : ByteArray) (pos : Nat) : Nat := (Utf8.decode s pos).2
theorem wd_pos (s : ByteArray) (pos : Nat) : 1 ≤ wd s pos := by
  unfold wd
  rw [Lib.decode_at]
  unfold Lib.decodeN
  repeat' split
  all_goals simp
theorem wd_fit (s : ByteArray) (pos : Nat) (h : pos < s.size) : pos + wd s pos ≤ s.size := by
  unfold wd
  rw [Lib.decode_at]
  unfold Lib.decodeN
  repeat' split
  all_goals (simp only; omega)
theorem get_tail (s : ByteArray) (a k : Nat) : (s.extract a s.size).get! k = s.get! (a + k) := by
  have hz : (s.extract a s.size).size = s.size - a := by rw [ByteArray.size_extract, Nat.min_self]
  by_cases h : a + k < s.size
  · have h2 : k < (s.extract a s.size).size := by omega
    have e1 : (s.extract a s.size).get! k = (s.extract a s.size)[k] := Utf8W.get!_of_lt _ _ h2
    have e2 : s.get! (a + k) = s[a + k] := Utf8W.get!_of_lt _ _ h
    rw [e1, e2, ByteArray.getElem_extract]
  · have hd : ∀ (b : ByteArray) (j : Nat), ¬ j < b.size → b.get! j = default := by
      intro b j hj
      show b.data[j]! = default
      exact getElem!_neg b.data j hj
    rw [hd _ _ (by omega), hd _ _ h]
theorem dec_tail (s : ByteArray) (a : Nat) (h : a < s.size) : (Lib.decodeGo (s.extract a s.size)).2 = wd s a := by
  have hz : (s.extract a s.size).size = s.size - a := by rw [ByteArray.size_extract, Nat.min_self]
  unfold Lib.decodeGo wd
  rw [if_neg (by omega), Lib.decode_at, Lib.decode_at, hz]
  simp only [get_tail, Nat.sub_zero, Nat.zero_add, Nat.add_zero]
/-- What nameSize returns. -/
def nsA (s : ByteArray) : Nat → Nat → Nat → Nat
  | 0, _, last => last + (Lib.decodeGo (s.extract last s.size)).2
  | b + 1, pos, last => if pos < s.size then (if 16 < pos then pos else nsA s b (pos + wd s pos) pos) else last + (Lib.decodeGo (s.extract last s.size)).2
def ns (s : ByteArray) : Nat := nsA s s.size 0 0
def At (s : ByteArray) (pos last : Nat) : Prop := (pos = 0 ∧ last = 0) ∨ (last < s.size ∧ last < pos ∧ pos = last + wd s last)
theorem nsA_end (s : ByteArray) (b pos last : Nat) (h : ¬ pos < s.size) : nsA s b pos last = last + (Lib.decodeGo (s.extract last s.size)).2 := by
  cases b with
  | zero => rfl
  | succ b => rw [nsA, if_neg h]
theorem nsA_ok (s : ByteArray) : ∀ (b pos last : Nat), At s pos last → pos ≤ s.size → s.size ≤ pos + b → nsA s b pos last = s.size ∨ (16 < nsA s b pos last ∧ 16 < s.size)
  | b, pos, last, ha, hp, hb => by
    by_cases h : pos < s.size
    · cases b with
      | zero => omega
      | succ b =>
        rw [nsA, if_pos h]
        by_cases h16 : 16 < pos
        · rw [if_pos h16]; omega
        · rw [if_neg h16]
          have := wd_pos s pos
          exact nsA_ok s b _ _ (.inr ⟨h, by omega, rfl⟩) (wd_fit s pos h) (by omega)
    · rw [nsA_end s b pos last h]
      left
      rcases ha with ⟨rfl, rfl⟩ | ⟨h1, h2, h3⟩
      · have hz : s.size = 0 := by omega
        unfold Lib.decodeGo
        rw [if_pos (by rw [ByteArray.size_extract]; omega)]
        simp [hz]
      · rw [dec_tail s last h1]; omega
theorem ns_ok (s : ByteArray) : ns s = s.size ∨ (16 < ns s ∧ 16 < s.size) := nsA_ok s _ 0 0 (.inl ⟨rfl, rfl⟩) (Nat.zero_le _) (by omega)
theorem nsA_le (s : ByteArray) : ∀ (b pos last : Nat), At s pos last → pos ≤ s.size → nsA s b pos last ≤ s.size
  | b, pos, last, ha, hp => by
    have hend : last + (Lib.decodeGo (s.extract last s.size)).2 ≤ s.size := by
      rcases ha with ⟨rfl, rfl⟩ | ⟨h1, h2, h3⟩
      · by_cases h : 0 < s.size
        · rw [dec_tail s 0 h]; exact wd_fit s 0 h
        · unfold Lib.decodeGo
          rw [if_pos (by rw [ByteArray.size_extract]; omega)]
          exact Nat.zero_le _
      · rw [dec_tail s last h1]; omega
    cases b with
    | zero => exact hend
    | succ b =>
      rw [nsA]
      by_cases h : pos < s.size
      · rw [if_pos h]
        by_cases h16 : 16 < pos
        · rw [if_pos h16]; omega
        · rw [if_neg h16]
          have := wd_pos s pos
          exact nsA_le s b _ _ (.inr ⟨h, by omega, rfl⟩) (wd_fit s pos h)
      · rw [if_neg h]; exact hend
theorem ns_le (s : ByteArray) : ns s ≤ s.size := nsA_le s _ 0 0 (.inl ⟨rfl, rfl⟩) (Nat.zero_le _)
end UM

open UM in
set_option maxRecDepth 1000000 in
set_option maxHeartbeats 1000000 in
theorem cNameSize (s : ByteArray) (w : World) (hs : s.size ≤ maxLen) (hT : Tb w) :
    Calls Tryd.prog 111 #[.string s] w fun e w' => e = .returned (.int .i64 (ns s : Nat)) ∧ Below w.heap.size w w' := by
  have hsz : s.size ≤ 9223372036854775807 := by unfold maxLen at hs; omega
  have HIT := Lib.hid (fun pos => (below_fresh w (.stringIter s pos) : Below w.heap.size w (w.iter s pos)))
  have HD := Lib.hid (fun (pos last : Nat) => (show Calls Tryd.prog 128 #[.string (s.extract last s.size)] (w.iter s pos) fun e w' => e = .returned (.tuple #[.int .i32 (Lib.decodeGo (s.extract last s.size)).1, .int .i64 (Lib.decodeGo (s.extract last s.size)).2]) ∧ Below (w.iter s pos).heap.size (w.iter s pos) w' from Any.utf8_DecodeRuneInString Tryd.decR _ _ (hT.below (HIT.out pos))))
  have HLE := Lib.hid (fun b pos last => nsA_le s b pos last)
  clear hs hT
  obtain ⟨R, hR⟩ : ∃ R, R = ns s := ⟨_, rfl⟩
  rw [← hR]
  have HR := Lib.hid (show nsA s s.size 0 0 = R from hR.symm)
  clear hR
  go_enter Tryd.func111, Tryd.ntmps111
  go_wp2
  go_loopw [3] (fun n w' => ∃ (pos b last : Nat), w' = w.iter s pos ∧ n = .int .i64 (last : Int) ∧ Hid (nsA s b pos last = R) ∧ Hid (At s pos last) ∧ Hid (pos ≤ s.size) ∧ Hid (s.size ≤ pos + b)) (fun _ w' => s.size - w'.iterPos w.heap.size)
  case atStart => exact ⟨0, s.size, 0, rfl, rfl, HR, Lib.hid (.inl ⟨rfl, rfl⟩), Lib.hid (Nat.zero_le _), Lib.hid (by omega)⟩
  case round =>
    obtain ⟨pos, b, last, rfl, rfl, hn, ha, hp, hb⟩ := hrel
    by_cases hlt : pos < s.size
    · have hnx : ∀ ty, (Instr.next (.pointer (some ⟨w.heap.size, 0, none⟩)) true ty).run Tryd.prog (w.iter s pos) = _ := fun ty => run_next_any w s pos ty hlt
      have hne : ∃ b', b = b' + 1 := ⟨b - 1, by have := hb.out; omega⟩
      obtain ⟨b', rfl⟩ := hne
      by_cases h16 : (16 : Int) < (pos : Int)
      · have hr : R = pos := by rw [← hn.out, nsA, if_pos hlt, if_pos (by omega)]
        go_wp2
        go_ret
        exact ⟨by rw [hr]; rfl, HIT.out _⟩
      · have hr : nsA s b' (pos + wd s pos) pos = R := by rw [← hn.out, nsA, if_pos hlt, if_neg (by omega)]
        have HR2 := Lib.hid hr
        have HA2 := Lib.hid (show At s (pos + wd s pos) pos from .inr ⟨hlt, by have := wd_pos s pos; omega, rfl⟩)
        have HP2 := Lib.hid (wd_fit s pos hlt)
        have hwd := wd_pos s pos
        have HB2 := Lib.hid (show s.size ≤ pos + wd s pos + b' by have := hb.out; omega)
        clear hr hn ha hp hb
        go_wp2
        go_roundw
        case rel => exact ⟨pos + wd s pos, b', pos, rfl, rfl, HR2, HA2, HP2, HB2⟩
        case measure =>
          show s.size - World.iterPos (w.iter s (pos + wd s pos)) w.heap.size < s.size - World.iterPos (w.iter s pos) w.heap.size
          rw [World.iterPos_iter, World.iterPos_iter]
          omega
    · have hnx : ∀ ty, (Instr.next (.pointer (some ⟨w.heap.size, 0, none⟩)) true ty).run Tryd.prog (w.iter s pos) = _ := fun ty => run_next_end w s pos ty hlt
      have hr : R = last + (Lib.decodeGo (s.extract last s.size)).2 := by rw [← hn.out, nsA_end s b pos last hlt]
      have hla : last ≤ s.size := by rcases ha.out with ⟨_, rfl⟩ | ⟨h, _⟩ <;> omega
      have hRl : R ≤ s.size := by rw [← hn.out]; exact HLE.out _ _ _ ha.out hp.out
      have HC := Lib.hid (HD.out pos last)
      have HIB := Lib.hid (HIT.out pos)
      have HRE := Lib.hid hr
      have hsl : ∀ w0 : World, (Instr.slice 9 (.string s) (some (.int .i64 (last : Int))) none none).run Tryd.prog w0 = .ok (.string (s.extract last s.size)) w0 := by
        intro w0
        simp [go_sem]
        omega
      generalize (Lib.decodeGo (s.extract last s.size)).2 = K at HC HRE hr
      generalize (Lib.decodeGo (s.extract last s.size)).1 = C at HC
      generalize s.extract last s.size = T at hsl HC
      have hsum : (last : Int) + (K : Int) = (R : Int) := by omega
      clear hn ha hp hb HD HIT HR HLE hr
      go_wp2_with fail
      refine HC.out.mono ?_
      rintro e w2 ⟨rfl, hb2⟩
      have HB := Lib.hid (bnext HIB.out hb2)
      clear hb2 HC HIB
      go_wp2
      go_ret
      exact ⟨by rw [HRE.out]; rfl, HB.out⟩

end Go.Proofs.YtdfablboenfblaaDoor
