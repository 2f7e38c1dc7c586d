/-
  The contracts of config's functions at valid configurations; the call of the laws' awake: it returns true. No conditions beyond those that each lemma names.
-/
import Derived.Test.YteeegpojfbgkfaaTCfh
import Derived.Test.YteeegpojfbgkfaaCDec
import Derived.Test.YteeegpojfbgkfaaCAddR
import Derived.Test.YteeegpojfbgkfaaCPart
import Derived.Test.YteeegpojfbgkfaaCPool
namespace Go.Proofs.Yteeegpojfbgkfaa
open Go.RowKit
open JM (Chg)
open CM (Fp)
open VM (Ent)

theorem oUnion (va vb : Value) (xs ys : List Fp) (w : World) (ha : RdF w va xs) (hb : RdF w vb ys) (hx : CM.Ok xs) (hy : CM.Ok ys) :
    Calls Try.prog 24 #[va, vb] w fun e w' => ∃ v', e = .returned v' ∧ RdF w' v' (CM.un xs ys) ∧ Below w.heap.size w w' :=
  gUnion va vb xs ys w ha hb (by have := hx.nine; omega) (by have := hy.nine; omega) (all_len hx.all) (all_len hy.all)
theorem oContains (va vb : Value) (xs ys : List Fp) (w : World) (ha : RdF w va xs) (hb : RdF w vb ys) (hx : CM.Ok xs) :
    Calls Try.prog 19 #[va, vb] w fun e w' => e = .returned (.bool (CM.cons xs ys)) ∧ Below w.heap.size w w' :=
  gContains va vb xs ys w ha hb hx.srt (by have := hx.nine; omega)
theorem oMeet (va vb : Value) (xs ys : List Fp) (w : World) (ha : RdF w va xs) (hb : RdF w vb ys) (hx : CM.Ok xs) (hy : CM.Ok ys) :
    Calls Try.prog 26 #[va, vb] w fun e w' => ∃ v', e = .returned v' ∧ RdF w' v' (CM.meet xs ys) ∧ Below w.heap.size w w' :=
  gMeet va vb xs ys w ha hb (by have := hx.nine; omega) (all_len hx.all) hy
theorem oVector (v : Value) (xs : List Fp) (w : World) (h : RdF w v xs) (hx : CM.Ok xs) :
    Calls Try.prog 17 #[v] w fun e w' => ∃ v', e = .returned v' ∧ OwnE w.heap.size w' v' (CM.vo xs) ∧ Below w.heap.size w w' :=
  gVector v xs w h (by have := hx.nine; omega)

def La : List Chg := [(2, 1, 0, 0, 0, 0, 0)]
def Fa : Fp := (201, 1, La)
def Fb : Fp := (202, 1, La)
theorem ok_ab : CM.Ok [Fa, Fb] := by show CM.errL (0, 0) [Fa, Fb] = 0; decide
theorem ok_a : CM.Ok [Fa] := by show CM.errL (0, 0) [Fa] = 0; decide
theorem ok_b : CM.Ok [Fb] := by show CM.errL (0, 0) [Fb] = 0; decide
theorem un_ab : CM.un [Fa] [Fb] = [Fa, Fb] := by rw [CM.un_cons, if_pos (by decide), CM.nil_un]
theorem add_ab : CM.addP [Fa, Fb] Fa = (5, []) := by unfold CM.addP; rw [if_neg (by decide), if_pos (by decide)]
theorem cons_1 : CM.cons [Fa, Fb] [Fb] = true := by decide
theorem cons_2 : CM.cons [Fa] [Fa, Fb] = false := by decide
theorem vo_2 : (CM.vo [Fa, Fb]).length = 2 := by decide
theorem meet_1 : (CM.meet [Fa, Fb] [Fa]).length = 1 := by decide
theorem rs_1 : (CM.rs [Fa, Fb] (VM.cnt (CM.vo [Fa]))).length = 1 := by decide
theorem dec_ab : CM.decL (CM.encL [Fa, Fb]) = (0, (CM.encL [Fa, Fb]).length, [Fa, Fb]) := by
  have := CM.decL_enc ok_ab []
  rw [List.append_nil] at this
  exact this
theorem enc_pos (fs : List Fp) : 0 < (CM.encL fs).length := by
  unfold CM.encL
  rw [List.length_append]
  have := WM.enc_pos fs.length
  omega
theorem enc_le {fs : List Fp} (h : CM.Ok fs) : (CM.encL fs).length ≤ 10000 := by
  unfold CM.encL
  rw [List.length_append]
  have := h.nine
  have := WM.enc_len10 fs.length (by omega)
  have := CM.flat_len h.all
  omega

set_option maxRecDepth 100000 in
set_option maxHeartbeats 4000000 in
theorem cAwake (w : World) : Calls Try.prog 12 #[] w fun e w' => e = .returned (.bool true) ∧ Below w.heap.size w w' := by
  have hb0 := below_fresh w (.cells #[.int .i64 2, .int .i64 1, .int .i64 0, .int .i64 0, .int .i64 0, .int .i64 0, .int .i64 0] 63)
  have hl0 : RdC (w.alloc (.cells #[.int .i64 2, .int .i64 1, .int .i64 0, .int .i64 0, .int .i64 0, .int .i64 0, .int .i64 0] 63)) (.slice (some ⟨w.heap.size, 0, none⟩) 1 1) La := (ownG_fresh hlC 63 w La (by simp [maxLen, La])).rd
  have hs0 := World.size_alloc w (.cells #[.int .i64 2, .int .i64 1, .int .i64 0, .int .i64 0, .int .i64 0, .int .i64 0, .int .i64 0] 63)
  obtain ⟨w0, hw0⟩ : ∃ w0, w.alloc (.cells #[.int .i64 2, .int .i64 1, .int .i64 0, .int .i64 0, .int .i64 0, .int .i64 0, .int .i64 0] 63) = w0 := ⟨_, rfl⟩
  rw [hw0] at hb0 hl0 hs0
  have hb1 := below_fresh w0 (.cells #[.int .i64 201, .int .i64 1, .slice (some ⟨w.heap.size, 0, none⟩) 1 1] 45)
  have ha1 : RdQ (w0.alloc (.cells #[.int .i64 201, .int .i64 1, .slice (some ⟨w.heap.size, 0, none⟩) 1 1] 45)) (.slice (some ⟨w0.heap.size, 0, none⟩) 1 1) [(201, 1, some ⟨w.heap.size, 0, none⟩, 1, 1)] := (ownG_fresh hlQ 45 w0 [(201, 1, some ⟨w.heap.size, 0, none⟩, 1, 1)] (by simp [maxLen])).rd
  have hp1 := PBox.fresh w0 201 1 (.slice (some ⟨w.heap.size, 0, none⟩) 1 1)
  have hs1 := World.size_alloc w0 (.cells #[.int .i64 201, .int .i64 1, .slice (some ⟨w.heap.size, 0, none⟩) 1 1] 45)
  obtain ⟨w1, hw1⟩ : ∃ w1, w0.alloc (.cells #[.int .i64 201, .int .i64 1, .slice (some ⟨w.heap.size, 0, none⟩) 1 1] 45) = w1 := ⟨_, rfl⟩
  rw [hw1] at hb1 ha1 hs1 hp1
  have hb2 := below_fresh w1 (.cells #[.int .i64 202, .int .i64 1, .slice (some ⟨w.heap.size, 0, none⟩) 1 1] 45)
  have ha2 : RdQ (w1.alloc (.cells #[.int .i64 202, .int .i64 1, .slice (some ⟨w.heap.size, 0, none⟩) 1 1] 45)) (.slice (some ⟨w1.heap.size, 0, none⟩) 1 1) [(202, 1, some ⟨w.heap.size, 0, none⟩, 1, 1)] := (ownG_fresh hlQ 45 w1 [(202, 1, some ⟨w.heap.size, 0, none⟩, 1, 1)] (by simp [maxLen])).rd
  obtain ⟨w2, hw2⟩ : ∃ w2, w1.alloc (.cells #[.int .i64 202, .int .i64 1, .slice (some ⟨w.heap.size, 0, none⟩) 1 1] 45) = w2 := ⟨_, rfl⟩
  rw [hw2] at hb2 ha2
  have hl2 : RdC w2 (.slice (some ⟨w.heap.size, 0, none⟩) 1 1) La := (hl0.below hb1).below hb2
  have hA : RdF w2 (.slice (some ⟨w.heap.size + 1, 0, none⟩) 1 1) [Fa] := by rw [← hs0]; exact ⟨_, ha1.below hb2, Tel.one ⟨rfl, rfl, hl2⟩⟩
  have hB : RdF w2 (.slice (some ⟨w.heap.size + 1 + 1, 0, none⟩) 1 1) [Fb] := by rw [← hs0, ← hs1]; exact ⟨_, ha2, Tel.one ⟨rfl, rfl, hl2⟩⟩
  have hp2 : PBox w2 (w.heap.size + 1) 201 1 (.slice (some ⟨w.heap.size, 0, none⟩) 1 1) := by rw [← hs0]; exact hp1.below hb2
  have HA := Lib.hid hA
  have HB := Lib.hid hB
  have HL := Lib.hid hl2
  have HP := Lib.hid hp2
  have HBW := Lib.hid (bnext (bnext hb0 hb1) hb2)
  have HW := Lib.hid (And.intro hw0 (And.intro hw1 hw2))
  have HU := oUnion _ _ _ _ w2 hA hB ok_a ok_b
  rw [un_ab] at HU
  have HU := Lib.hid HU
  clear hb0 hl0 hs0 hb1 ha1 hs1 hp1 hb2 ha2 hl2 hA hB hp2 hw0 hw1 hw2
  go_enter Try.func12, Try.ntmps12
  go_wp2_with fail
  rw [HW.out.1, HW.out.2.1, HW.out.2.2]
  refine HU.out.mono ?_
  rintro e w3 ⟨v3, rfl, hr, hb⟩
  obtain ⟨a3, c3, rfl, _, _⟩ := hr.shape
  replace HA := Lib.hid (HA.out.below hb)
  replace HB := Lib.hid (HB.out.below hb)
  replace HL := Lib.hid (HL.out.below hb)
  have hp := HP.out.below hb
  replace HBW := Lib.hid (bnext HBW.out hb)
  replace HU := Lib.hid (show RdF w3 (.slice a3 2 c3) [Fa, Fb] from hr)
  have hlen : ([Fa, Fb] : List Fp).length = 2 := rfl
  rw [hlen]
  have hC := gAdd _ _ 201 1 (.slice (some ⟨w.heap.size, 0, none⟩) 1 1) La w3 HU.out HL.out ok_ab
  rw [show CM.addP [Fa, Fb] ((201 : Int), (1 : Int), La) = (5, []) from add_ab] at hC
  have HC := Lib.hid hC
  clear hr hb hC hlen HP HW
  obtain ⟨p0, p1, p2⟩ := hp
  go_wp2_with fail
  refine HC.out.mono ?_
  rintro e w4 ⟨v4, rfl, _, hb⟩
  replace HA := Lib.hid (HA.out.below hb)
  replace HB := Lib.hid (HB.out.below hb)
  replace HU := Lib.hid (HU.out.below hb)
  replace HBW := Lib.hid (bnext HBW.out hb)
  replace HC := Lib.hid (gAppendC (.slice none 0 0) [] _ _ w4 (Rd.nil _) HU.out ok_ab (by simp))
  clear hb p0 p1 p2
  go_wp2_with fail
  refine HC.out.mono ?_
  rintro e w5 ⟨v5, rfl, ho, hb⟩
  replace HA := Lib.hid (HA.out.below hb)
  replace HB := Lib.hid (HB.out.below hb)
  replace HU := Lib.hid (HU.out.below hb)
  replace HBW := Lib.hid (bnext HBW.out hb)
  have hD := gDecodeC v5 _ w5 ho.rd
  rw [List.nil_append, dec_ab] at hD
  have hN := enc_pos [Fa, Fb]
  have hN2 := enc_le ok_ab
  generalize (CM.encL [Fa, Fb]).length = N at hD hN hN2
  have hN3 : (0 : Int) < (N : Int) := by omega
  have HD := Lib.hid hD
  clear hb ho hD HC hN hN2
  go_wp2_with fail
  refine HD.out.mono ?_
  rintro e w6 ⟨v6, rfl, hr, hb⟩
  replace HA := Lib.hid (HA.out.below hb)
  replace HB := Lib.hid (HB.out.below hb)
  replace HU := Lib.hid (HU.out.below hb)
  replace HBW := Lib.hid (bnext HBW.out hb)
  have HR := Lib.hid hr
  have hC := oContains _ _ _ _ w6 HU.out HB.out ok_ab
  rw [cons_1] at hC
  have HC := Lib.hid hC
  clear hr hb hC HD
  go_wp2_with fail
  refine HC.out.mono ?_
  rintro e w7 ⟨rfl, hb⟩
  replace HA := Lib.hid (HA.out.below hb)
  replace HU := Lib.hid (HU.out.below hb)
  replace HR := Lib.hid (HR.out.below hb)
  replace HBW := Lib.hid (bnext HBW.out hb)
  have hC := oContains _ _ _ _ w7 HA.out HU.out ok_a
  rw [cons_2] at hC
  replace HC := Lib.hid hC
  clear hb hC HB
  go_wp2_with fail
  refine HC.out.mono ?_
  rintro e w8 ⟨rfl, hb⟩
  replace HA := Lib.hid (HA.out.below hb)
  replace HU := Lib.hid (HU.out.below hb)
  replace HR := Lib.hid (HR.out.below hb)
  replace HBW := Lib.hid (bnext HBW.out hb)
  have hC := gEqual _ _ _ _ w8 HR.out HU.out
  rw [decide_eq_true rfl] at hC
  replace HC := Lib.hid hC
  clear hb hC
  go_wp2_with fail
  refine HC.out.mono ?_
  rintro e w9 ⟨rfl, hb⟩
  replace HA := Lib.hid (HA.out.below hb)
  replace HU := Lib.hid (HU.out.below hb)
  replace HBW := Lib.hid (bnext HBW.out hb)
  replace HC := Lib.hid (oVector _ _ w9 HU.out ok_ab)
  clear hb HR
  go_wp2_with fail
  refine HC.out.mono ?_
  rintro e w10 ⟨v10, rfl, ho, hb⟩
  obtain ⟨a10, c10, rfl, _, _⟩ := ho.rd.shape
  rw [vo_2]
  replace HA := Lib.hid (HA.out.below hb)
  replace HU := Lib.hid (HU.out.below hb)
  replace HBW := Lib.hid (bnext HBW.out hb)
  replace HC := Lib.hid (oMeet _ _ _ _ w10 HU.out HA.out ok_ab ok_a)
  clear hb ho
  go_wp2_with fail
  refine HC.out.mono ?_
  rintro e w11 ⟨v11, rfl, hr, hb⟩
  obtain ⟨a11, c11, rfl, _, _⟩ := hr.shape
  rw [meet_1]
  replace HA := Lib.hid (HA.out.below hb)
  replace HU := Lib.hid (HU.out.below hb)
  replace HBW := Lib.hid (bnext HBW.out hb)
  replace HC := Lib.hid (oVector _ _ w11 HA.out ok_a)
  clear hb hr
  go_wp2_with fail
  refine HC.out.mono ?_
  rintro e w12 ⟨v12, rfl, ho, hb⟩
  replace HU := Lib.hid (HU.out.below hb)
  replace HBW := Lib.hid (bnext HBW.out hb)
  replace HC := Lib.hid (gRestrict _ v12 _ _ w12 HU.out ho.rdV (CM.vo_spec ok_a).1 (by have := CM.vo_len [Fa]; simp at this; omega) (by simp) (all_len ok_ab.all))
  clear hb ho HA
  go_wp2_with fail
  refine HC.out.mono ?_
  rintro e w13 ⟨v13, rfl, hr, hb⟩
  obtain ⟨a13, c13, rfl, _, _⟩ := hr.shape
  rw [rs_1]
  replace HBW := Lib.hid (bnext HBW.out hb)
  clear hb hr HC HU
  go_wp2
  go_ret
  exact ⟨rfl, HBW.out⟩

end Go.Proofs.Yteeegpojfbgkfaa
