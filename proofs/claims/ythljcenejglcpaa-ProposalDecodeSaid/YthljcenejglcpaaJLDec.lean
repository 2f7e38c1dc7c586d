/-
  The call of the law ProposalDecode: true. Conditions: the slice reads as bytes.
-/
import Derived.Test.YthljcenejglcpaaKE
import Derived.Test.YthljcenejglcpaaJAwake
namespace Go.Proofs.Ythljcenejglcpaa
open Go.RowKit
open JM (Chg)

set_option maxRecDepth 100000 in
set_option maxHeartbeats 4000000 in
theorem lProposalDecode (v : Value) (xs : List Int) (w : World) (h : Rd w v xs) :
    Calls Try.prog 8 #[v] w fun e w' => e = .returned (.bool true) ∧ Below w.heap.size w w' := by
  obtain ⟨ad, cp, rfl, hcp⟩ := h.shape
  have HV := Lib.hid h
  have HA := Lib.hid cAwake
  have HD := Lib.hid (cDecode (.slice ad xs.length cp) xs w h)
  have HR := Lib.hid (fun w1 h1 => rDecode (.slice ad xs.length cp) xs w1 h1)
  generalize JM.decP xs = R at HD HR
  obtain ⟨er, u, x1, x2, cs⟩ := R
  simp only at HD HR
  clear h
  by_cases h300 : 300 < xs.length
  · have hz : (300 : Int) < (xs.length : Int) := by omega
    clear HD HR
    go_enter Try.func8, Try.ntmps8
    go_wp2_with fail
    refine (HA.out _).mono ?_
    rintro e w2 ⟨rfl, hb2⟩
    go_wp2
    go_ret
    exact ⟨rfl, hb2⟩
  · have hz : ¬ (300 : Int) < (xs.length : Int) := by omega
    have heq : ((u : Int) == (u : Int)) = true := by simp
    have heq2 : (er == er) = true := by simp
    go_enter Try.func8, Try.ntmps8
    go_wp2_with fail
    refine HD.out.mono ?_
    rintro e w1 ⟨sv, rfl, hs, hb1⟩
    obtain ⟨a1, c1, rfl, _, _⟩ := hs.shape
    have hf := below_fresh w1 (.cells #[.int .i64 x1, .int .i64 x2, .slice a1 cs.length c1] 32)
    have HB2 := Lib.hid (bnext hb1 hf)
    have HS2 := Lib.hid (hs.below hf)
    have HP2 := Lib.hid (PBox.fresh w1 x1 x2 (.slice a1 cs.length c1))
    have HV2 := Lib.hid (HV.out.below HB2.out)
    clear hs hb1 hf HD
    go_wp2_with fail
    refine (HR.out _ HV2.out).mono ?_
    rintro e w3 ⟨sv, rfl, hs, hb3⟩
    obtain ⟨a3, c3, rfl, _, _⟩ := hs.shape
    have hf := below_fresh w3 (.cells #[.int .i64 x1, .int .i64 x2, .slice a3 cs.length c3] 32)
    have hb4 := bnext hb3 hf
    have HB4 := Lib.hid (bnext HB2.out hb4)
    have HS4 := Lib.hid (HS2.out.below hb4)
    have HT4 := Lib.hid (hs.below hf)
    have HP4 := Lib.hid (HP2.out.below hb4)
    have HQ4 := Lib.hid (PBox.fresh w3 x1 x2 (.slice a3 cs.length c3))
    clear hs hb3 hf hb4 HR HB2 HS2 HP2 HV2 HV
    have HEQ := Lib.hid (fun w5 (h1 : RdC w5 (.slice a1 cs.length c1) cs) (h2 : RdC w5 (.slice a3 cs.length c3) cs) => (show Calls Try.prog 18 #[pv x1 x2 (.slice a1 cs.length c1), pv x1 x2 (.slice a3 cs.length c3)] w5 fun e w' => e = .returned (.bool true) ∧ Below w5.heap.size w5 w' from by
      have := rEqual x1 x2 _ cs x1 x2 _ cs w5 h1 h2
      rw [show eqP x1 x2 cs x1 x2 cs = true from decide_eq_true ⟨rfl, rfl, rfl⟩] at this
      exact this))
    obtain ⟨p0, p1, p2⟩ := HP4.out
    obtain ⟨q0, q1, q2⟩ := HQ4.out
    go_wp2_with fail
    refine (HEQ.out _ HS4.out HT4.out).mono ?_
    rintro e w5 ⟨rfl, hb5⟩
    have HB5 := Lib.hid (bnext HB4.out hb5)
    clear hb5 p0 p1 p2 q0 q1 q2 HP4 HQ4 HS4 HT4 HB4 HEQ
    go_wp2_with fail
    refine (HA.out _).mono ?_
    rintro e w6 ⟨rfl, hb6⟩
    go_wp2
    go_ret
    exact ⟨rfl, bnext HB5.out hb6⟩

end Go.Proofs.Ythljcenejglcpaa
