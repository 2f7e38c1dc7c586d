/-
  The law QuorumOverlap of layer 4, walked: true, and memory of others as it was. No conditions.
-/
import Derived.Test.YtbbgjckiooejhaaQAwake
import Derived.Test.YtbbgjckiooejhaaQROver
import Derived.Test.YtbbgjckiooejhaaQViewK
namespace Go.Proofs.Ytbbgjckiooejhaa
open Go.RowKit
open QM (Mem)

set_option maxRecDepth 100000 in
set_option maxHeartbeats 4000000 in
theorem lQuorumOverlap (n m : Int) (w : World) :
    Calls Try.prog 8 #[.int .i64 n, .int .i64 m] w fun e w' => e = .returned (.bool true) ∧ Below w.heap.size w w' := by
  have HA := Lib.hid cAwake
  have HK := Lib.hid (kView n m)
  go_enter Try.func8, Try.ntmps8
  go_wp2_with fail
  refine (HK.out _).mono ?_
  rintro e w1 ⟨sv, k, c, f, ms, rfl, ho1, he, hml, hb1⟩
  obtain ⟨ad, cp, rfl, hcp, _⟩ := ho1.rd.shape
  have hX := VBox.fresh w1 (.slice ad ms.length cp) k c f
  have hf2 := below_fresh w1 (.cells #[.slice ad ms.length cp, .int .i64 k, .int .i64 c, .int .i64 f] 26)
  have HR2 := Lib.hid (ho1.rd.below hf2)
  have HX2 := Lib.hid hX
  have HB2 := Lib.hid (bnext hb1 hf2)
  obtain ⟨her, hval⟩ := QM.errV_zero.1 he
  have HO1 := Lib.hid (fun w (hw : RdM w (.slice ad ms.length cp) ms) => cOverlap (.slice ad ms.length cp) k c f ms w hw he)
  have HO2 := Lib.hid (fun w (hw : RdM w (.slice ad ms.length cp) ms) => rOverlap (.slice ad ms.length cp) k c f ms w hw he)
  have HMN := Lib.hid (fun w (hw : RdM w (.slice ad ms.length cp) ms) => cMinimal (.slice ad ms.length cp) k c f ms w hw he)
  have HAB := Lib.hid (fun ls (hl : QM.MinL (QM.isQ k c f ms) ms ls) (o : Int) (h : QM.Least ls o) => h.above her hval hl)
  clear HK ho1 hb1 hX hf2 he her hval
  go_wp2_with fail
  generalize w1.alloc (.cells #[.slice ad ms.length cp, .int .i64 k, .int .i64 c, .int .i64 f] 26) = w2 at HR2 HX2 HB2 ⊢
  generalize w1.heap.size = B at HX2 ⊢
  refine (HO1.out _ HR2.out).mono ?_
  rintro e w3 ⟨o, ls, rfl, hls, hle, hb3⟩
  have HR3 := Lib.hid (HR2.out.below hb3)
  have HX3 := Lib.hid (HX2.out.below hb3)
  have HB3 := Lib.hid (bnext HB2.out hb3)
  have HLS := Lib.hid hls
  have HLE := Lib.hid hle
  have hab := HAB.out ls hls o hle
  clear HR2 HX2 HB2 hb3 HO1 hls hle HAB
  obtain ⟨x0, x1, x2, x3, x4⟩ := HX3.out
  go_wp2_with fail
  refine (HO2.out _ HR3.out).mono ?_
  rintro e w4 ⟨o2, ls2, rfl, hls2, hle2, hb4⟩
  obtain rfl := HLS.out.unique hls2
  obtain rfl := HLE.out.unique hle2
  have HR4 := Lib.hid (HR3.out.below hb4)
  have HX4 := Lib.hid (HX3.out.below hb4)
  have HB4 := Lib.hid (bnext HB3.out hb4)
  clear HR3 HX3 HB3 hb4 HO2 hls2 hle2 x0 x1 x2 x3 x4
  obtain ⟨x0, x1, x2, x3, x4⟩ := HX4.out
  have hoo : (o == o) = true := by simp
  go_wp2_with fail
  refine (HMN.out _ HR4.out).mono ?_
  rintro e w5 ⟨v5, ls5, rfl, hrd5, hls5, hb5⟩
  obtain rfl := HLS.out.unique hls5
  obtain ⟨a5, c5, rfl, hc5, hl5⟩ := hrd5.shape
  have HX5 := Lib.hid (HX4.out.below hb5)
  have HB5 := Lib.hid (bnext HB4.out hb5)
  clear HR4 HX4 HB4 hb5 HMN hls5 hrd5 x0 x1 x2 x3 x4
  obtain ⟨x0, x1, x2, x3, x4⟩ := HX5.out
  rcases hab with ⟨hn, h0⟩ | ⟨hn, h1, h2⟩
  · subst hn
    subst h0
    go_wp2_with fail
    refine (HA.out _).mono ?_
    rintro e w6 ⟨rfl, hb6⟩
    have HB6 := Lib.hid (bnext HB5.out hb6)
    clear hb6
    go_wp2
    go_ret
    exact ⟨rfl, HB6.out⟩
  · have hz : ((ls.length : Int) == 0) = false := beq_f (by
      have := List.length_pos_iff.2 hn
      omega)
    have hoz : (o == 0) = false := beq_f (by omega)
    go_wp2_with fail
    refine (HA.out _).mono ?_
    rintro e w6 ⟨rfl, hb6⟩
    have HB6 := Lib.hid (bnext HB5.out hb6)
    clear hb6
    go_wp2
    go_ret
    exact ⟨rfl, HB6.out⟩

end Go.Proofs.Ytbbgjckiooejhaa
