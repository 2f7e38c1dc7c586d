/-
  The kit's call Part, with what it gives as a function of what it takes (KI's kPart says only that it is a part). Conditions: the configuration reads.
-/
import Derived.Test.YtkgkhofkhjgnbaaGreatGEqi
namespace Go.Proofs.YtkgkhofkhjgnbaaGreat
open Go.RowKit Go.Joins Go.Shelf
open JM (Chg)
open CM (Fp)
open VM (Ent)

namespace IM
def pvT (n : Int) : Nat → List Ent
  | 0 => []
  | j + 1 => if 0 < dg n 4 j then pvT n j ++ [((201 : Int) + (j : Int), (dg n 4 j : Int))] else pvT n j
def prt (n : Int) (fs : List Fp) : List Fp := CM.rs fs (VM.cnt (pvT n 3))
theorem pvT_hit {n : Int} {j : Nat} (h : 0 < dg n 4 j) : pvT n (j + 1) = pvT n j ++ [((201 : Int) + (j : Int), (dg n 4 j : Int))] := if_pos h
theorem pvT_miss {n : Int} {j : Nat} (h : ¬ 0 < dg n 4 j) : pvT n (j + 1) = pvT n j := if_neg h
theorem prt_ok {fs : List Fp} (h : CM.Ok fs) (n : Int) : CM.Ok (prt n fs) := h.rs _
theorem prt_cons (fs : List Fp) (n : Int) : CM.cons fs (prt n fs) = true := cons_rs _ _
end IM

set_option maxRecDepth 100000 in
set_option maxHeartbeats 4000000 in
theorem kPartD (v : Value) (fs : List Fp) (n : Int) (w : World) (h : RdF w v fs) (hl : fs.length ≤ 1000) :
    Calls Tryz.prog 10 #[v, .int .i64 n] w fun e w' => ∃ u, e = .returned u ∧ RdF w' u (IM.prt n fs) ∧ Below w.heap.size w w' := by
  obtain ⟨ad, cp, rfl, hcp, _⟩ := h.shape
  have ho0 := ownG_empty hlE 67 w
  have hb0 := below_fresh w (.cells #[] 67)
  have H := Lib.hid h
  clear h
  go_enter Tryz.func10, Tryz.ntmps10
  go_wp2
  obtain ⟨w0, hw0⟩ : ∃ w0, w.alloc (.cells #[] 67) = w0 := ⟨_, rfl⟩
  rw [hw0] at ho0 hb0 ⊢
  clear hw0
  go_loopw [5, 6] (fun u i wr => ∃ (j : Nat) (vs : List Ent), j ≤ 3 ∧ i = .int .i64 j ∧ vs.length ≤ j ∧ Hid (vs = IM.pvT n j) ∧ Hid (OwnE w.heap.size wr u vs) ∧ Hid (Below w.heap.size w wr)) (fun _ i _ => 3 - (intOf i).toNat)
  case atStart => exact ⟨0, [], by decide, rfl, Nat.le_refl _, Lib.hid rfl, ho0, hb0⟩
  case round =>
    obtain ⟨j, vs, hj, rfl, hvl, hvs, ho, hbl⟩ := hrel
    clear ho0 hb0
    by_cases hlt : j < 3
    · have hq : (j : Int) < 3 := by omega
      have hD := fun w => kDigit n 4 j w (by decide) (by decide) (by omega)
      obtain ⟨d, hdd⟩ : ∃ d, d = dg n 4 j := ⟨_, rfl⟩
      rw [← hdd] at hD
      have HDD := Lib.hid hdd
      clear hdd
      have HD := Lib.hid hD
      clear hD
      by_cases hd : 0 < d
      · have hdi : (0 : Int) < (d : Int) := by omega
        have HV2 := Lib.hid (show vs ++ [((201 : Int) + (j : Int), (d : Int))] = IM.pvT n (j + 1) by rw [hvs.out, IM.pvT_hit (by rw [← HDD.out]; exact hd), ← HDD.out])
        clear hvs
        go_wp2_with fail
        refine (HD.out _).mono ?_
        rintro e w1 ⟨rfl, rfl⟩
        go_wp2_with fail
        refine (HD.out _).mono ?_
        rintro e w1 ⟨rfl, rfl⟩
        have hs := hbl.out.size
        have ho1 := ho.out
        have hvl2 : vs.length ≤ 1073741824 := by omega
        have HBL := Lib.hid hbl.out
        clear ho hbl HD
        go_wp2_with (at_builtin; refine wp_appG1' entE (201 + (j : Int), (d : Int)) _ rfl rfl _ _ rfl rfl ho1 rfl hvl2 hs ?_)
        intro v3 w3 ho3 hb3 _
        have HO3 := Lib.hid ho3
        have HB3 := Lib.hid (HBL.out.trans hb3)
        have hl3 : (vs ++ [((201 : Int) + (j : Int), (d : Int))]).length ≤ j + 1 := by rw [List.length_append]; simp; omega
        have HL3 := Lib.hid hl3
        clear ho1 ho3 hb3 HBL hs hl3
        go_wp2
        go_roundw
        case rel => exact ⟨j + 1, _, by omega, by go_num, HL3.out, HV2, HO3, HB3⟩
        case measure => simp [intOf]; omega
      · have hdi : ¬ (0 : Int) < (d : Int) := by omega
        have HV2 := Lib.hid (show vs = IM.pvT n (j + 1) by rw [hvs.out, IM.pvT_miss (by rw [← HDD.out]; exact hd)])
        clear hvs
        go_wp2_with fail
        refine (HD.out _).mono ?_
        rintro e w1 ⟨rfl, rfl⟩
        clear HD
        go_wp2
        go_roundw
        case rel => exact ⟨j + 1, vs, by omega, by go_num, by omega, HV2, ho, hbl⟩
        case measure => simp [intOf]; omega
    · have hq : ¬ (j : Int) < 3 := by omega
      have HR := Lib.hid (rRestrict _ _ fs vs wr (H.out.below hbl.out) ho.out.rdV hl)
      obtain rfl : j = 3 := by omega
      rw [hvs.out] at HR
      clear ho hvs
      go_wp2_with fail
      refine HR.out.mono ?_
      rintro e w2 ⟨v2, rfl, hr2, hb2⟩
      have HR2 := Lib.hid hr2
      clear hr2 HR
      go_wp2
      go_ret
      exact ⟨_, rfl, HR2.out, bnext hbl.out hb2⟩

end Go.Proofs.YtkgkhofkhjgnbaaGreat
