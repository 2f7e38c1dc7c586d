/-
  The call of the laws' awake in elasticstorelaw05, at any world: true. No conditions.
-/
import Derived.Test.YthljcenejglcpaaJEn6
import Derived.Test.YthljcenejglcpaaKD
import Derived.Test.YthljcenejglcpaaKE
namespace Go.Proofs.Ythljcenejglcpaa
open Go.RowKit
open JM (Chg)

def cs2 : List Chg := [(1, 4, 2, 0, 0, 0, 0), (2, 1, 0, 0, 0, 0, 0)]
theorem err2 : JM.errP 201 1 cs2 = 0 := by decide
abbrev sl2 (B : Nat) : Value := .slice (some ⟨B, 0, none⟩) 2 2

theorem start2 (w w1 w2 : World) (h1 : w1 = w.alloc (.cells #[.int .i64 1, .int .i64 4, .int .i64 2, .int .i64 0, .int .i64 0, .int .i64 0, .int .i64 0, .int .i64 2, .int .i64 1, .int .i64 0, .int .i64 0, .int .i64 0, .int .i64 0, .int .i64 0] 25))
    (h2 : w2 = w1.alloc (.cells #[.int .i64 201, .int .i64 1, sl2 w.heap.size] 32)) :
    RdC w2 (sl2 w.heap.size) cs2 ∧ PBox w2 (w.heap.size + 1) 201 1 (sl2 w.heap.size) ∧ Below w.heap.size w w2 := by
  have e1 : w1.heap.size = w.heap.size + 1 := by rw [h1]; exact World.size_alloc _ _
  have b1 : Below w.heap.size w w1 := by rw [h1]; exact below_fresh _ _
  have b2 : Below w1.heap.size w1 w2 := by rw [h2]; exact below_fresh _ _
  have r1 : RdC w1 (sl2 w.heap.size) cs2 := by rw [h1]; exact (ownG_fresh hlC 25 w cs2 (by decide)).rd
  have x2 : PBox w2 (w.heap.size + 1) 201 1 (sl2 w.heap.size) := by rw [h2, ← e1]; exact PBox.fresh _ _ _ _
  exact ⟨r1.below b2, x2, bnext b1 b2⟩

set_option maxRecDepth 100000 in
set_option maxHeartbeats 4000000 in
theorem cAwake (w : World) : Calls Try.prog 12 #[] w fun e w' => e = .returned (.bool true) ∧ Below w.heap.size w w' := by
  obtain ⟨hr2, hx2, hb2⟩ := start2 w _ _ rfl rfl
  have HA := Lib.hid (fun w1 (h : RdC w1 (sl2 w.heap.size) cs2) => cAppend (.slice none 0 0) [] 201 1 (sl2 w.heap.size) cs2 w1 (Rd.nil w1) h err2 (by simp))
  have hL := JM.encP_pos 201 1 cs2
  have HD := Lib.hid (fun v w1 (h : Rd w1 v (JM.encP 201 1 cs2)) => (show Calls Try.prog 20 #[v] w1 fun e w' => ∃ sv, e = .returned (.tuple #[pv 201 1 sv, .int .i64 ((JM.encP 201 1 cs2).length : Int), .int .i64 0]) ∧ RdC w' sv cs2 ∧ Below w1.heap.size w1 w' from by
    have := cDecode v _ w1 h
    have e := JM.decP_enc err2 []
    rw [List.append_nil] at e
    rw [e] at this
    exact this))
  generalize hE : JM.encP 201 1 cs2 = E at HA hL HD
  have HEQ := Lib.hid (fun sv w1 (h1 : RdC w1 (sl2 w.heap.size) cs2) (h2 : RdC w1 sv cs2) => (show Calls Try.prog 17 #[pv 201 1 (sl2 w.heap.size), pv 201 1 sv] w1 fun e w' => e = .returned (.bool true) ∧ Below w1.heap.size w1 w' from by
    have := cEqual 201 1 _ cs2 201 1 sv cs2 w1 h1 h2
    rw [show eqP 201 1 cs2 201 1 cs2 = true from decide_eq_true ⟨rfl, rfl, rfl⟩] at this
    exact this))
  have HEQ2 := Lib.hid (fun sv w1 (h1 : RdC w1 (sl2 w.heap.size) cs2) (h2 : RdC w1 sv cs2) => (show Calls Try.prog 18 #[pv 201 1 (sl2 w.heap.size), pv 201 1 sv] w1 fun e w' => e = .returned (.bool true) ∧ Below w1.heap.size w1 w' from by
    have := rEqual 201 1 _ cs2 201 1 sv cs2 w1 h1 h2
    rw [show eqP 201 1 cs2 201 1 cs2 = true from decide_eq_true ⟨rfl, rfl, rfl⟩] at this
    exact this))
  have HVA := Lib.hid (fun w1 (h1 : RdC w1 (sl2 w.heap.size) cs2) => (show Calls Try.prog 13 #[pv 201 1 (sl2 w.heap.size)] w1 fun e w' => e = .returned (.int .i64 0) ∧ Below w1.heap.size w1 w' from by
    have := cValidate 201 1 _ cs2 w1 h1
    rw [err2] at this
    exact this))
  have HCM := Lib.hid (fun w1 => (show Calls Try.prog 15 #[pv 201 1 (sl2 w.heap.size), pv 202 0 (.slice none 0 0)] w1 fun e w' => e = .returned (.int .i64 (-1)) ∧ Below w1.heap.size w1 w' from cCompare 201 1 _ 2 2 202 0 none 0 0 w1))
  have HVC := Lib.hid (fun w1 => (show Calls Try.prog 10 #[cv 0 0 0 0 0 0 0] w1 fun e w' => e = .returned (.int .i64 10) ∧ Below w1.heap.size w1 w' from cValChange 0 0 0 0 0 0 0 w1))
  have HR2 := Lib.hid hr2
  have HX2 := Lib.hid hx2
  have HB2 := Lib.hid hb2
  have HL := Lib.hid hL
  clear hr2 hx2 hb2 hE hL
  go_enter Try.func12, Try.ntmps12
  go_wp2_with fail
  generalize (w.alloc (.cells #[.int .i64 1, .int .i64 4, .int .i64 2, .int .i64 0, .int .i64 0, .int .i64 0, .int .i64 0, .int .i64 2, .int .i64 1, .int .i64 0, .int .i64 0, .int .i64 0, .int .i64 0, .int .i64 0] 25)).alloc (.cells #[.int .i64 201, .int .i64 1, sl2 w.heap.size] 32) = w2 at HR2 HX2 HB2 ⊢
  refine (HA.out _ HR2.out).mono ?_
  rintro e w3 ⟨v3, rfl, ho3, hb3⟩
  have hrd3 := ho3.rd
  rw [List.nil_append] at hrd3
  obtain ⟨a3, c3, rfl, hc3⟩ := hrd3.shape
  have HRD := Lib.hid hrd3
  have HR3 := Lib.hid (HR2.out.below hb3)
  have HX3 := Lib.hid (HX2.out.below hb3)
  have HB3 := Lib.hid (bnext HB2.out hb3)
  clear ho3 hrd3 hb3 HA HR2 HX2 HB2
  go_wp2_with fail
  refine (HD.out _ _ HRD.out).mono ?_
  rintro e w4 ⟨sv, rfl, hrs, hb4⟩
  obtain ⟨a4, c4, rfl⟩ : ∃ a c, sv = .slice a 2 c := by obtain ⟨a, c, h, _⟩ := hrs.shape; exact ⟨a, c, h⟩
  have hb5 := below_fresh w4 (.cells #[.int .i64 201, .int .i64 1, .slice a4 2 c4] 32)
  have hb45 := bnext hb4 hb5
  have HS5 := Lib.hid (hrs.below hb5)
  have HY5 := Lib.hid (PBox.fresh w4 201 1 (.slice a4 2 c4))
  have HR5 := Lib.hid (HR3.out.below hb45)
  have HX5 := Lib.hid (HX3.out.below hb45)
  have HB5 := Lib.hid (bnext HB3.out hb45)
  clear hrs hb4 hb5 hb45 HD HRD HR3 HX3 HB3
  obtain ⟨x0, x1, x2⟩ := HX5.out
  obtain ⟨y0, y1, y2⟩ := HY5.out
  have hLn := HL.out
  have hlp : (0 : Int) < (E.length : Int) := by omega
  have heq : ((E.length : Int) == (E.length : Int)) = true := by simp
  go_wp2_with fail
  refine (HEQ.out _ _ HR5.out HS5.out).mono ?_
  rintro e w6 ⟨rfl, hb6⟩
  have HR6 := Lib.hid (HR5.out.below hb6)
  have HS6 := Lib.hid (HS5.out.below hb6)
  have HX6 := Lib.hid (HX5.out.below hb6)
  have HY6 := Lib.hid (HY5.out.below hb6)
  have HB6 := Lib.hid (bnext HB5.out hb6)
  clear hb6 HEQ HR5 HS5 HX5 HY5 HB5 x0 x1 x2 y0 y1 y2
  obtain ⟨x0, x1, x2⟩ := HX6.out
  obtain ⟨y0, y1, y2⟩ := HY6.out
  go_wp2_with fail
  refine (HEQ2.out _ _ HR6.out HS6.out).mono ?_
  rintro e w7 ⟨rfl, hb7⟩
  have HR7 := Lib.hid (HR6.out.below hb7)
  have HX7 := Lib.hid (HX6.out.below hb7)
  have HB7 := Lib.hid (bnext HB6.out hb7)
  clear hb7 HEQ2 HR6 HS6 HX6 HY6 HB6 x0 x1 x2 y0 y1 y2
  obtain ⟨x0, x1, x2⟩ := HX7.out
  go_wp2_with fail
  refine (HVA.out _ HR7.out).mono ?_
  rintro e w8 ⟨rfl, hb8⟩
  have HX8 := Lib.hid (HX7.out.below hb8)
  have HB8 := Lib.hid (bnext HB7.out hb8)
  clear hb8 HVA HR7 HX7 HB7 x0 x1 x2
  obtain ⟨x0, x1, x2⟩ := HX8.out
  go_wp2_with fail
  refine (HCM.out _).mono ?_
  rintro e w9 ⟨rfl, hb9⟩
  have HB9 := Lib.hid (bnext HB8.out hb9)
  clear hb9 HCM HX8 HB8 x0 x1 x2
  go_wp2_with fail
  refine (HVC.out _).mono ?_
  rintro e w10 ⟨rfl, hb10⟩
  go_wp2
  go_ret
  exact ⟨rfl, bnext HB9.out hb10⟩

end Go.Proofs.Ythljcenejglcpaa
