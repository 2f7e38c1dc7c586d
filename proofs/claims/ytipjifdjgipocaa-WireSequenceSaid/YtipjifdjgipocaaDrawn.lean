/-
  The walks of the laws whose last statement draws its order: WireUintEncode, WireUintDecode, WireIntRoundTrip, WireStringRoundTrip, WireBoolAll: each returns true. No conditions beyond that the arguments read as data.
-/
import Derived.Test.YtipjifdjgipocaaLaws
import Derived.Deep.RegionWith
namespace Go.Proofs.Ytipjifdjgipocaa
open Go.RowKit
open WM (Bytes enc dec zig zag)

/-- In w, and in every later world that keeps its blocks, 'string(v)' is S. -/
def Text (w : World) (v : Value) (S : ByteArray) : Prop := ∀ w2 : World, Below w.heap.size w w2 → (convert 22 9 v).run Try.prog w2 = .ok (.string S) w2
theorem Text.self {w : World} {v : Value} {S : ByteArray} (h : Text w v S) : (convert 22 9 v).run Try.prog w = .ok (.string S) w := h w (Below.refl _ _)
theorem Text.later {w w2 : World} {v : Value} {S : ByteArray} (h : Text w v S) (hb : Below w.heap.size w w2) : (convert 22 9 v).run Try.prog w2 = .ok (.string S) w2 := h w2 hb
theorem Rd.text {w : World} {v : Value} {xs : List Int} (h : Rd w v xs) : Text w v (strOfNums xs) := fun _ hb => (h.below hb).str

/-- A call that gives bytes of the call's own, told for every world behind w. -/
theorem gives {f : Nat} {args : Array Value} {w w0 : World} {ys : List Int} (hb : Below w.heap.size w w0)
    (h : Calls Try.prog f args w0 fun e w' => ∃ v', e = .returned v' ∧ Own w0.heap.size w' v' ys ∧ Below w0.heap.size w0 w') :
    Calls Try.prog f args w0 fun e w' => ∃ v', e = .returned v' ∧ Below w.heap.size w w' ∧ Below w0.heap.size w0 w' ∧ Text w' v' (strOfNums ys) :=
  h.mono fun _ _ ⟨v', he, ho, hk⟩ => ⟨v', he, hb.trans (hk.mono hb.size), hk, ho.rd.text⟩

set_option maxRecDepth 100000 in
set_option maxHeartbeats 2000000 in
theorem lUintEncode (n : Nat) (v : Value) (xs : List Int) (w : World) (hn : n < 18446744073709551616) (h : Rd w v xs) :
    Calls Try.prog 3 #[v, .int .u64 n] w fun e w' => e = .returned (.bool true) ∧ Below w.heap.size w w' := by
  obtain ⟨a, c, rfl, hcm⟩ := h.shape
  by_cases hbig : 300 < xs.length
  · clear hn h
    go_enter Try.func3, Try.ntmps3
    go_wp2_with fail
    refine (awake_any _).mono ?_
    rintro e w1 ⟨rfl, hb⟩
    go_wp2
    go_ret
    exact ⟨rfl, hb⟩
  · have hA := Lib.hid (fun (w0 : World) (hb : Below w.heap.size w w0) => gives hb (wAppendUint _ xs n w0 (h.below hb) (by omega) hn))
    have hB := Lib.hid (fun (w0 : World) (hb : Below w.heap.size w w0) => gives hb (rAppendUint _ xs n w0 (h.below hb) (by omega) hn))
    clear hn h
    go_enter Try.func3, Try.ntmps3
    go_wp2
    go_region_with (first
      | (go_at_call 14; refine (hA.out _ (by first | exact bB | exact (Below.refl _ _).drew)).mono ?_; rintro e wA ⟨vA, rfl, bA, pA, kA⟩; have cA := kA.self; try have cB2 := kB.later pA)
      | (go_at_call 15; refine (hB.out _ (by first | exact bA | exact (Below.refl _ _).drew)).mono ?_; rintro e wB ⟨vB, rfl, bB, pB, kB⟩; have cB := kB.self; try have cA2 := kA.later pB)
      | (go_at_call 13; refine (awake_any _).mono ?_; rintro e wC ⟨rfl, bC⟩))
    all_goals
      clear hA hB kA kB cA cB
      go_wp2
      go_ret
      exact ⟨rfl, by first | exact bB.trans (bC.mono bB.size) | exact bA.trans (bC.mono bA.size)⟩

/-- 'b[:hi]': one run equation, and what it reads as. -/
theorem Rd.cut0 {w : World} {a : Option Addr} {n c : Nat} {xs : List Int} (h : Rd w (.slice a n c) xs) (hi : Nat) (h2 : hi ≤ xs.length) :
    ∃ v', (∀ w0 : World, (Instr.slice 22 (.slice a n c) none (some (.int .i64 (hi : Int))) none).run Try.prog w0 = .ok v' w0) ∧ Rd w v' (xs.take hi) := by
  obtain ⟨v', hv', hsl, hrd⟩ := h.cut 0 hi (by omega) h2
  refine ⟨v', fun w0 => ?_, by simpa using hrd⟩
  rw [← hsl w0]
  have e4 : (0 : Int) ≤ (hi : Int) := by omega
  have e3 : (hi : Int) ≤ (c : Int) := by
    obtain ⟨a', n', c', hv, h3, h4, _⟩ := h
    cases hv
    omega
  have hz := fun w => run_sizeU8 w
  simp [Instr.slice, run_underlying Try.underlying22, Instr.sliceBounds, run_sliceBound, e3, e4, hz, Result.andThen]

set_option maxRecDepth 100000 in
set_option maxHeartbeats 2000000 in
theorem lUintDecode (v : Value) (xs : List Int) (w : World) (h : Rd w v xs) :
    Calls Try.prog 4 #[v] w fun e w' => e = .returned (.bool true) ∧ Below w.heap.size w w' := by
  have h1 := wUint v xs w h
  have h2 := rUint v xs w h
  obtain ⟨a, c, rfl, hcm⟩ := h.shape
  by_cases hbig : 300 < xs.length
  · clear h1 h2 h
    go_enter Try.func4, Try.ntmps4
    go_wp2_with fail
    refine (awake_any _).mono ?_
    rintro e w1 ⟨rfl, hb⟩
    go_wp2
    go_ret
    exact ⟨rfl, hb⟩
  · rcases WM.dec_two xs h.bytes with ⟨e, he, hd⟩ | ⟨m, hm, hd, hml, ht⟩
    · rw [hd] at h1 h2
      have he1 : (e == 0) = false := by rcases he with rfl | rfl | rfl <;> rfl
      have he2 : (e != 0) = true := by rcases he with rfl | rfl | rfl <;> rfl
      clear he hd h
      go_enter Try.func4, Try.ntmps4
      go_wp2_with fail
      refine h1.mono ?_
      rintro e w1 ⟨rfl, rfl⟩
      go_wp2_with fail
      refine h2.mono ?_
      rintro e w1 ⟨rfl, rfl⟩
      clear h1 h2
      go_wp2_with fail
      refine (awake_any _).mono ?_
      rintro e w1 ⟨rfl, hb⟩
      go_wp2
      go_ret
      exact ⟨rfl, hb⟩
    · rw [hd] at h1 h2
      obtain ⟨v', hsl, hrd⟩ := h.cut0 (enc m).length hml
      rw [ht] at hrd
      have kS := hrd.text
      have hA := Lib.hid (fun (w0 : World) (hb : Below w.heap.size w w0) => gives hb (wAppendUint _ [] m w0 (Rd.nil w0) (by simp) hm))
      rw [List.nil_append] at hA
      have cS0 := kS.later (Below.refl _ w).drew
      clear hd h hrd ht hm
      go_enter Try.func4, Try.ntmps4
      go_wp2_with fail
      refine h1.mono ?_
      rintro e w1 ⟨rfl, rfl⟩
      go_wp2_with fail
      refine h2.mono ?_
      rintro e w1 ⟨rfl, rfl⟩
      clear h1 h2
      go_wp2_with fail
      go_region_with (first
        | (go_at_call 14; refine (hA.out _ (Below.refl _ _).drew).mono ?_; rintro e wA ⟨vA, rfl, bA, pA, kA⟩; have cA := kA.self; have cS := kS.later bA)
        | (go_at_call 13; refine (awake_any _).mono ?_; rintro e wC ⟨rfl, bC⟩))
      all_goals
        go_wp2
        go_ret
        exact ⟨rfl, bA.trans (bC.mono bA.size)⟩

end Go.Proofs.Ytipjifdjgipocaa
