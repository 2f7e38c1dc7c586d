/-
  The walk of the law FrameFeed: it returns true. No conditions beyond that the arguments read as data.
-/
import Derived.Test.YtgpbacddpfbimaaFeed
import Derived.Test.YtgpbacddpfbimaaSame
import Derived.Test.YtgpbacddpfbimaaFAwake
namespace Go.Proofs.Ytgpbacddpfbimaa
open Go.RowKit
open WM (Bytes)

set_option maxRecDepth 100000 in
set_option maxHeartbeats 1000000 in
theorem lFeedBig (vB v : Value) (f : Int) (bs xs : List Int) (w : World) (hB : Rd w vB bs) (hv : Rd w v xs) (hbig : 500 < bs.length ∨ 500 < xs.length) :
    Calls Try.prog 10 #[.agg #[vB, .int .i64 f], v] w fun e w' => e = .returned (.bool true) ∧ Below w.heap.size w w' := by
  obtain ⟨ab, cb, rfl, hcb⟩ := hB.shape
  obtain ⟨av, cv, rfl, hcv⟩ := hv.shape
  clear hB hv
  have hb0 := below_fresh' w (.cells #[.slice ab bs.length cb, .int .i64 f] 38)
  by_cases h1 : 500 < bs.length
  · clear hbig
    go_enter Try.func10, Try.ntmps10
    go_wp2_with fail
    refine (awake2 _).mono ?_
    rintro e w1 ⟨rfl, hb⟩
    go_wp2
    go_ret
    exact ⟨rfl, hb0.trans (hb.mono hb0.size)⟩
  · have h2 : 500 < xs.length := by omega
    clear hbig
    go_enter Try.func10, Try.ntmps10
    go_wp2_with fail
    refine (awake2 _).mono ?_
    rintro e w1 ⟨rfl, hb⟩
    go_wp2
    go_ret
    exact ⟨rfl, hb0.trans (hb.mono hb0.size)⟩

set_option maxRecDepth 100000 in
set_option maxHeartbeats 2000000 in
theorem lFeed (vB v : Value) (f : Int) (bs xs : List Int) (w : World) (hB : Rd w vB bs) (hv : Rd w v xs) :
    Calls Try.prog 10 #[.agg #[vB, .int .i64 f], v] w fun e w' => e = .returned (.bool true) ∧ Below w.heap.size w w' := by
  by_cases hbig : 500 < bs.length ∨ 500 < xs.length
  · exact lFeedBig vB v f bs xs w hB hv hbig
  · have g1 : bs.length ≤ 500 := by omega
    have g2 : xs.length ≤ 500 := by omega
    clear hbig
    obtain ⟨ab, cb, rfl, hcb⟩ := hB.shape
    obtain ⟨av, cv, rfl, hcv⟩ := hv.shape
    have hb0 := below_fresh' w (.cells #[.slice ab bs.length cb, .int .i64 f] 38)
    have HB := Lib.hid (hB.below hb0)
    have HV := Lib.hid (hv.below hb0)
    clear hB hv
    have h1 := wFeed _ _ f bs xs _ HB.out HV.out (by omega)
    have H2 := Lib.hid (fun w0 h3 h4 => rFeed (.slice ab bs.length cb) (.slice av xs.length cv) f bs xs w0 h3 h4 (by omega))
    obtain ⟨R, hR⟩ : ∃ R, R = FM.next bs f xs := ⟨_, rfl⟩
    rw [← hR] at h1 H2
    clear hR
    have hg0 : (w.alloc (.cells #[.slice ab bs.length cb, .int .i64 f] 38)).heap[w.heap.size]? = some (.cells #[.slice ab bs.length cb, .int .i64 f] 38 (0, 0)) := heap_alloc_new w _
    go_enter Try.func10, Try.ntmps10
    go_wp2_with fail
    refine h1.mono ?_
    rintro e w1 ⟨vR, vL, rfl, hR, hL, hb1⟩
    have hb2 := hb0.trans (hb1.mono hb0.size)
    have hg1 := (Below.keepsT hb1) _ _ _ _ (by decide) hg0
    obtain ⟨aR, cR, rfl, hcR⟩ := hR.1.shape
    have hn := below_fresh' w1 (.cells #[.slice aR R.1.length cR, .int .i64 R.2.1] 38)
    have h2 := H2.out _ ((HB.out.below hb1).below hn) ((HV.out.below hb1).below hn)
    have hg2 := (Below.keepsT hn) _ _ _ _ (by decide) hg1
    have hg3 : (w1.alloc (.cells #[.slice aR R.1.length cR, .int .i64 R.2.1] 38)).heap[w1.heap.size]? = some (.cells #[.slice aR R.1.length cR, .int .i64 R.2.1] 38 (0, 0)) := heap_alloc_new w1 _
    have hR3 := hR.below hn
    have hL3 := hL.below hn
    have hb3 := hb2.trans (hn.mono hb2.size)
    obtain ⟨q0, q1, _, _⟩ := split_at hg2
    clear h1 H2 hb0 hb1 hb2 hn hg0 hg1 hg2 hR hL HB HV
    go_wp2_with fail
    refine h2.mono ?_
    rintro e w2 ⟨vR2, vL2, rfl, hR2, hL2, hb4⟩
    have hb5 := hb3.trans (hb4.mono hb3.size)
    have hg4 := (Below.keepsT hb4) _ _ _ _ (by decide) hg3
    have s1 := (hR3.below hb4).1.str
    have s2 := hR2.1.str
    have hsm := same_true vL vL2 R.2.2 w2 (hL3.below hb4).rdL hL2.rdL
    obtain ⟨p0, p1, _, _⟩ := split_at hg4
    obtain ⟨a2, c2, rfl, hc2⟩ := hR2.1.shape
    clear h2 hb3 hb4 hg3 hg4 hR2 hL2 hR3 hL3 q0 q1
    go_wp2_with fail
    refine hsm.mono ?_
    rintro e w3 ⟨rfl, hb6⟩
    have hb7 := hb5.trans (hb6.mono hb5.size)
    clear hsm hb5 hb6
    go_wp2_with fail
    refine (awake2 _).mono ?_
    rintro e w4 ⟨rfl, hb8⟩
    go_wp2
    go_ret
    exact ⟨rfl, hb7.trans (hb8.mono hb7.size)⟩

end Go.Proofs.Ytgpbacddpfbimaa
