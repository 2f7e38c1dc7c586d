/-
  The calls of the reference's parseRule and form: what DM.prl and DM.frm give. Conditions: the words read.
-/
import Derived.Test.YteiicflodobpnaaGreatDoorDRef2
import Derived.Test.YteiicflodobpnaaGreatDoorDPrs
namespace Go.Proofs.YteiicflodobpnaaGreatDoor
open Go.RowKit Go.Joins Go.Shelf
open JM (Chg)

namespace DM
/-- A rule's form, of the words behind 'rule'. -/
def prl : List (List UInt8) → Option (Int × Int × Int)
  | [a] => if a = sMaj then some (1, 0, 0) else if a = sWtd then some (2, 0, 0) else none
  | [a, b] => if a = sGrid ∧ isN b = true then some (3, val b, 0) else if a = sMask ∧ isN b = true then some (4, 0, val b) else none
  | _ => none
def rch : Int × Int × Int → Chg | (k, c, f) => (4, 0, 0, 0, k, c, f)
theorem frm_rule (r : List (List UInt8)) : frm (sRule :: r) = (prl r).map rch := by
  have e1 : sRule ≠ sJoin := by decide
  have e2 : sRule ≠ sRemove := by decide
  have e3 : sRule ≠ sWeight := by decide
  match r with
  | [] => rfl
  | [a] =>
    simp only [frm, prl, e1, e2, false_and, if_false, true_and]
    split
    · rfl
    split <;> rfl
  | [a, b] =>
    simp only [frm, prl, e3, false_and, if_false, true_and]
    split
    · rfl
    split <;> rfl
  | [a, b, c] => simp [frm, prl, e1]
  | a :: b :: c :: d :: r => rfl
theorem num_of {l : List UInt8} (h : isN l = true) : num l = (val l : Int) := by unfold num; rw [if_pos h]
theorem num_no {l : List UInt8} (h : isN l = false) : num l = -1 := by unfold num; rw [if_neg (by rw [h]; simp)]
end DM

theorem strq (x : ByteArray) (l : List UInt8) : (x.toList == l) = decide (x.data.toList = l) := by
  rw [ByteArray.toList_eq]
  by_cases h : x.data.toList = l
  · rw [decide_eq_true h, h]; simp
  · rw [decide_eq_false h]; simpa using h
theorem strq_t {x : ByteArray} {l : List UInt8} (h : x.data.toList = l) : (x.toList == l) = true := by rw [strq, decide_eq_true h]
theorem strq_f {x : ByteArray} {l : List UInt8} (h : ¬ x.data.toList = l) : (x.toList == l) = false := by rw [strq, decide_eq_false h]
/-- 'v[k]' of a slice of strings. -/
theorem atT {w : World} {a : Option Addr} {n c : Nat} {ys : List ByteArray} (h : RdT w (.slice a n c) ys) (k : Nat) (x : ByteArray) (hk : ys[k]? = some x) :
    ∃ b o, (∀ w0, (Instr.indexAt 37 (.slice a n c) (.int .i64 (k : Int))).run Tryz.prog w0 = .ok (.pointer (some ⟨b, o, none⟩)) w0) ∧ b < w.heap.size ∧ w.cell? ⟨b, o, none⟩ = some (.string x) := by
  obtain ⟨b, o, h1, h2, h3⟩ := h.at_ strE k x hk
  exact ⟨b, o, h1, h2, h3 0 _ rfl⟩

def rlT : Option (Int × Int × Int) → Value
  | some (k, c, f) => .tuple #[rl k c f, .bool true]
  | none => .tuple #[rl 0 0 0, .bool false]
theorem prl_ret {R : Ending → World → Prop} {a : Act} {w : World} {g : Nat} {k c f : Int} {b : Bool} (hp : a.tmps.getD 2 undef = .pointer (some ⟨g, 0, none⟩)) (h3 : a.tmps.getD 3 undef = .bool b) (hg : w.heap[g]? = some (.cells #[.int .i64 k, .int .i64 c, .int .i64 f] 25 (0, 0)))
    (hd : a.defers = []) (hR : R (.returned (.tuple #[rl k c f, .bool b])) w) : bodyPost Tryz.prog Tryz.f67 R .ret a w := by
  have := results_cell_tmp1 (P := Tryz.prog) (fn := Tryz.f67) rfl a.tmps w g 25 _ _ _ hp hg Tryz.underlying25 rfl (by kernel_rfl)
  rw [h3] at this
  exact bodyPost_ret this hd hR

set_option maxRecDepth 100000 in
set_option maxHeartbeats 2000000 in
theorem rParseRule (v : Value) (ys : List ByteArray) (w : World) (h : RdT w v ys) :
    Calls Tryz.prog 67 #[v] w fun e w' => e = .returned (rlT (DM.prl (ys.map (·.data.toList)))) ∧ Below w.heap.size w w' := by
  obtain ⟨a, c, rfl, hc, hlc⟩ := h.shape
  have hb := below_fresh w (.cells #[.int .i64 0, .int .i64 0, .int .i64 0] 25)
  have hx := heap_alloc_new w (.cells #[.int .i64 0, .int .i64 0, .int .i64 0] 25)
  have hw : ∃ w1, w.alloc (.cells #[.int .i64 0, .int .i64 0, .int .i64 0] 25) = w1 := ⟨_, rfl⟩
  obtain ⟨w1, hw1⟩ := hw
  rw [hw1] at hb hx
  have HB := Lib.hid hb
  have HX := Lib.hid hx
  have HW := Lib.hid hw1
  have HN := Lib.hid rNumber
  replace h := h.below hb
  obtain ⟨⟨c0, c1, c2⟩, f0, f1, f2⟩ := row3_at hx
  obtain ⟨R, hR⟩ : ∃ R, R = DM.prl (ys.map (·.data.toList)) := ⟨_, rfl⟩
  rw [← hR]
  have fin : ∀ (k c f : Int) (b : Bool) (tm : Array Value), rlT R = .tuple #[rl k c f, .bool b] → tm.getD 2 undef = .pointer (some ⟨w.heap.size, 0, none⟩) → tm.getD 3 undef = .bool b → bodyPost Tryz.prog Tryz.f67 (fun e w' => e = .returned (rlT R) ∧ Below w.heap.size w w') .ret ⟨tm, []⟩ (((w1.setCell ⟨w.heap.size, 0, none⟩ (.int .i64 k)).setCell ⟨w.heap.size, 1, none⟩ (.int .i64 c)).setCell ⟨w.heap.size, 2, none⟩ (.int .i64 f)) := fun k c f b tm e1 e2 e3 => by
    have hput := row3_put HX.out (.int .i64 k) (.int .i64 c) (.int .i64 f) w.heap.size (Nat.le_refl _)
    exact prl_ret e2 e3 hput.1 rfl ⟨by rw [e1], HB.out.trans hput.2⟩
  have FIN := Lib.hid fin
  clear hb hx hw1 fin
  match ys, h with
  | [], h =>
    have e := Lib.hid (show rlT R = .tuple #[rl 0 0 0, .bool false] by rw [hR]; rfl)
    clear hR h
    go_enter Tryz.func67, Tryz.ntmps67
    go_upto_region 1 with fail
    rw [HW.out]
    go_wp2
    exact FIN.out _ _ _ _ _ e.out (by rfl) (by rfl)
  | [x], h =>
    obtain ⟨b, o, hi, hbb, hcx⟩ := atT h 0 x rfl
    replace hi : ∀ w0, (Instr.indexAt 37 (.slice a 1 c) (.int .i64 0)).run Tryz.prog w0 = .ok (.pointer (some ⟨b, o, none⟩)) w0 := hi
    clear h
    by_cases hm : x.data.toList = DM.sMaj
    · have e := Lib.hid (show rlT R = .tuple #[rl 1 0 0, .bool true] by rw [hR]; simp [DM.prl, hm, rlT])
      have q1 : (x.toList == [109, 97, 106, 111, 114, 105, 116, 121]) = true := strq_t hm
      clear hR hm
      go_enter Tryz.func67, Tryz.ntmps67
      go_upto_region 1 with fail
      rw [HW.out]
      go_wp2
      exact FIN.out _ _ _ _ _ e.out (by rfl) (by rfl)
    by_cases hw : x.data.toList = DM.sWtd
    · have e := Lib.hid (show rlT R = .tuple #[rl 2 0 0, .bool true] by rw [hR]; simp [DM.prl, hw, rlT, show DM.sWtd ≠ DM.sMaj by decide])
      have q1 : (x.toList == [109, 97, 106, 111, 114, 105, 116, 121]) = false := strq_f hm
      have q2 : (x.toList == [119, 101, 105, 103, 104, 116, 101, 100]) = true := strq_t hw
      clear hR hm hw
      go_enter Tryz.func67, Tryz.ntmps67
      go_upto_region 1 with fail
      rw [HW.out]
      go_wp2
      exact FIN.out _ _ _ _ _ e.out (by rfl) (by rfl)
    · have e := Lib.hid (show rlT R = .tuple #[rl 0 0 0, .bool false] by rw [hR]; simp [DM.prl, hm, hw, rlT])
      have q1 : (x.toList == [109, 97, 106, 111, 114, 105, 116, 121]) = false := strq_f hm
      have q2 : (x.toList == [119, 101, 105, 103, 104, 116, 101, 100]) = false := strq_f hw
      clear hR hm hw
      go_enter Tryz.func67, Tryz.ntmps67
      go_upto_region 1 with fail
      rw [HW.out]
      go_wp2
      exact FIN.out _ _ _ _ _ e.out (by rfl) (by rfl)
  | [x, y], h =>
    obtain ⟨b, o, hi, hbb, hcx⟩ := atT h 0 x rfl
    obtain ⟨b2, o2, hi2, hbb2, hcy⟩ := atT h 1 y rfl
    replace hi : ∀ w0, (Instr.indexAt 37 (.slice a 2 c) (.int .i64 0)).run Tryz.prog w0 = .ok (.pointer (some ⟨b, o, none⟩)) w0 := hi
    replace hi2 : ∀ w0, (Instr.indexAt 37 (.slice a 2 c) (.int .i64 1)).run Tryz.prog w0 = .ok (.pointer (some ⟨b2, o2, none⟩)) w0 := hi2
    clear h
    by_cases hy : DM.isN y.data.toList = true
    · have hn := DM.num_of hy
      have hn0 : (0 : Int) ≤ (DM.val y.data.toList : Int) := by omega
      by_cases hm : x.data.toList = DM.sGrid
      · have e := Lib.hid (show rlT R = .tuple #[rl 3 (DM.val y.data.toList) 0, .bool true] by rw [hR]; simp [DM.prl, hm, hy, rlT])
        have q1 : (x.toList == [103, 114, 105, 100]) = true := strq_t hm
        clear hR hm hy
        go_enter Tryz.func67, Tryz.ntmps67
        go_upto_region 1 with fail
        rw [HW.out]
        go_wp2_with (refine (HN.out _ _).mono ?_; rintro e w' ⟨rfl, rfl⟩)
        exact FIN.out _ _ _ _ _ e.out (by rfl) (by rfl)
      by_cases hw : x.data.toList = DM.sMask
      · have e := Lib.hid (show rlT R = .tuple #[rl 4 0 (DM.val y.data.toList), .bool true] by rw [hR]; simp [DM.prl, hw, hy, rlT, show DM.sMask ≠ DM.sGrid by decide])
        have q1 : (x.toList == [103, 114, 105, 100]) = false := strq_f hm
        have q2 : (x.toList == [109, 97, 115, 107, 105, 110, 103]) = true := strq_t hw
        clear hR hm hw hy
        go_enter Tryz.func67, Tryz.ntmps67
        go_upto_region 1 with fail
        rw [HW.out]
        go_wp2_with (refine (HN.out _ _).mono ?_; rintro e w' ⟨rfl, rfl⟩)
        exact FIN.out _ _ _ _ _ e.out (by rfl) (by rfl)
      · have e := Lib.hid (show rlT R = .tuple #[rl 0 0 0, .bool false] by rw [hR]; simp [DM.prl, hm, hw, rlT])
        have q1 : (x.toList == [103, 114, 105, 100]) = false := strq_f hm
        have q2 : (x.toList == [109, 97, 115, 107, 105, 110, 103]) = false := strq_f hw
        clear hR hm hw hy hn
        go_enter Tryz.func67, Tryz.ntmps67
        go_upto_region 1 with fail
        rw [HW.out]
        go_wp2
        exact FIN.out _ _ _ _ _ e.out (by rfl) (by rfl)
    · have hy' : DM.isN y.data.toList = false := by simpa using hy
      have hn := DM.num_no hy'
      by_cases hm : x.data.toList = DM.sGrid
      · have e := Lib.hid (show rlT R = .tuple #[rl 0 0 0, .bool false] by rw [hR]; simp [DM.prl, hm, hy', rlT])
        have q1 : (x.toList == [103, 114, 105, 100]) = true := strq_t hm
        have q2 : (x.toList == [109, 97, 115, 107, 105, 110, 103]) = false := strq_f (by rw [hm]; decide)
        clear hR hm hy hy'
        go_enter Tryz.func67, Tryz.ntmps67
        go_upto_region 1 with fail
        rw [HW.out]
        go_wp2_with (refine (HN.out _ _).mono ?_; rintro e w' ⟨rfl, rfl⟩)
        exact FIN.out _ _ _ _ _ e.out (by rfl) (by rfl)
      by_cases hw : x.data.toList = DM.sMask
      · have e := Lib.hid (show rlT R = .tuple #[rl 0 0 0, .bool false] by rw [hR]; simp [DM.prl, hw, hy', rlT])
        have q1 : (x.toList == [103, 114, 105, 100]) = false := strq_f hm
        have q2 : (x.toList == [109, 97, 115, 107, 105, 110, 103]) = true := strq_t hw
        clear hR hm hw hy hy'
        go_enter Tryz.func67, Tryz.ntmps67
        go_upto_region 1 with fail
        rw [HW.out]
        go_wp2_with (refine (HN.out _ _).mono ?_; rintro e w' ⟨rfl, rfl⟩)
        exact FIN.out _ _ _ _ _ e.out (by rfl) (by rfl)
      · have e := Lib.hid (show rlT R = .tuple #[rl 0 0 0, .bool false] by rw [hR]; simp [DM.prl, hm, hw, rlT])
        have q1 : (x.toList == [103, 114, 105, 100]) = false := strq_f hm
        have q2 : (x.toList == [109, 97, 115, 107, 105, 110, 103]) = false := strq_f hw
        clear hR hm hw hy hy' hn
        go_enter Tryz.func67, Tryz.ntmps67
        go_upto_region 1 with fail
        rw [HW.out]
        go_wp2
        exact FIN.out _ _ _ _ _ e.out (by rfl) (by rfl)
  | x :: y :: z :: r, h =>
    have z1 : (((x :: y :: z :: r).length : Nat) : Int) == 1 ↔ False := by simp; omega
    have z2 : (((x :: y :: z :: r).length : Nat) : Int) == 2 ↔ False := by simp; omega
    obtain ⟨n, hn⟩ : ∃ n, n = (x :: y :: z :: r).length := ⟨_, rfl⟩
    rw [← hn] at z1 z2 ⊢
    have g1 : ((n : Int) == 1) = false := by simpa using z1
    have g2 : ((n : Int) == 2) = false := by simpa using z2
    have e := Lib.hid (show rlT R = .tuple #[rl 0 0 0, .bool false] by rw [hR]; rfl)
    clear hR h z1 z2 hn hlc
    go_enter Tryz.func67, Tryz.ntmps67
    go_upto_region 1 with fail
    rw [HW.out]
    go_wp2
    exact FIN.out _ _ _ _ _ e.out (by rfl) (by rfl)

end Go.Proofs.YteiicflodobpnaaGreatDoor
