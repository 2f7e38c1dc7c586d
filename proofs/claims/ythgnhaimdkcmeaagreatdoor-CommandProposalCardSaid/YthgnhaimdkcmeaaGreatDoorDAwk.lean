/-
  The call of the law's awake.
-/
import Derived.Test.YthgnhaimdkcmeaaGreatDoorDComp
import Derived.Test.YthgnhaimdkcmeaaGreatDoorDFmt
import Derived.Test.YthgnhaimdkcmeaaGreatDoorGB
namespace Go.Proofs.YthgnhaimdkcmeaaGreatDoor
open Go.RowKit Go.Joins Go.Shelf
open JM (Chg)
open MM (Mem Ent Sm Tri)

abbrev aL1 : ByteArray := ⟨#[106, 111, 105, 110, 32, 52, 32, 119, 101, 105, 103, 104, 116, 32, 50]⟩
abbrev aL2 : ByteArray := ⟨#[106, 111, 105, 110, 32, 52, 32, 32, 119, 101, 105, 103, 104, 116, 32, 50]⟩
abbrev aT1 : ByteArray := ⟨#[35, 32, 114, 101, 112, 108, 97, 99, 101, 10, 106, 111, 105, 110, 32, 52, 10, 114, 101, 109, 111, 118, 101, 32, 49, 10]⟩
abbrev aT2 : ByteArray := ⟨#[10, 114, 101, 109, 111, 118, 101, 32, 57]⟩
def aS : Sm := ⟨[], [], [], 0, 0, 0, 0, 0, 0⟩
theorem a_prs1 : DM.prs aL1.data.toList = ((1, 4, 2, 0, 0, 0, 0), 0) := by decide
theorem a_prs2 : DM.prs aL2.data.toList = (DM.zc, 11) := by decide
theorem a_cmp1 : DM.cmpl aT1.data.toList (MM.ini [(1, 1)] 1 0 0) = ([(1, 4, 1, 0, 0, 0, 0), (2, 1, 0, 0, 0, 0, 0)], 0, 0) := by decide
theorem a_cmp2 : (DM.cmpl aT2.data.toList aS) = ([], 2, 6) := by decide
theorem a_itoa4 : Lib.itoa 4 = [52] := by
  have e : Lib.itoa 4 = Lib.decDigits 4 := rfl
  rw [e, Lib.decDigits, dif_pos (by decide)]; rfl
theorem a_itoa2 : Lib.itoa 2 = [50] := by
  have e : Lib.itoa 2 = Lib.decDigits 2 := rfl
  rw [e, Lib.decDigits, dif_pos (by decide)]; rfl
theorem a_fmt : DM.fmt (1, 4, 2, 0, 0, 0, 0) = aL1.data.toList := by
  rw [fmt_eq (by decide), if_pos rfl, a_itoa4, a_itoa2]; rfl
theorem str_of {S T : ByteArray} (h : S.data.toList = T.data.toList) : S = T := by
  cases S; cases T
  simp only at h
  rw [Array.toList_inj.1 h]

set_option maxRecDepth 100000 in
set_option maxHeartbeats 4000000 in
theorem cAwake8 (w : World) (hV : Vars w) : Calls Tryz.prog 4 #[] w fun e w' => e = .returned (.bool true) ∧ Below w.heap.size w w' := by
  have HP1 := Lib.hid (fun w' (hb : Below w.heap.size w w') => by
    have := cParse aL1 w' (by decide) (hV.below hb)
    unfold Ppost at this
    rw [a_prs1] at this
    exact (show Calls Tryz.prog 12 #[.string aL1] w' fun e w'' => e = .returned (.tuple #[cv 1 4 2 0 0 0 0, .int .i64 0]) ∧ Below w'.heap.size w' w'' from this))
  have HP2 := Lib.hid (fun w' (hb : Below w.heap.size w w') => by
    have := cParse aL2 w' (by decide) (hV.below hb)
    unfold Ppost at this
    rw [a_prs2] at this
    exact (show Calls Tryz.prog 12 #[.string aL2] w' fun e w'' => e = .returned (.tuple #[cv 0 0 0 0 0 0 0, .int .i64 11]) ∧ Below w'.heap.size w' w'' from this))
  have HI := Lib.hid (fun w' (u : Value) (h : RdM w' u [(1, 1)]) => rInitial u 1 0 0 [(1, 1)] w' h (by decide))
  have HC1 := Lib.hid (fun w' (hb : Below w.heap.size w w') x y z (h1 : RdI w' x (MM.ini [(1, 1)] 1 0 0).J) (h2 : RdI w' y (MM.ini [(1, 1)] 1 0 0).R) (h3 : RdW w' z (MM.ini [(1, 1)] 1 0 0).W) => by
    have := cCompile aT1 x y z (MM.ini [(1, 1)] 1 0 0) w' (by decide) (hV.below hb) h1 h2 h3 (by decide) (by intro u; show (0 : Int) ≤ (if (1 : Int) = u then (0 : Int) else 0); split <;> decide) (by decide)
    unfold Cpost at this
    rw [a_cmp1] at this
    exact this)
  have HC2 := Lib.hid (fun w' (hb : Below w.heap.size w w') => by
    have := cCompile aT2 (.slice none 0 0) (.slice none 0 0) (.slice none 0 0) aS w' (by decide) (hV.below hb) (RdG.nil hlI _) (RdG.nil hlI _) (RdG.nil hlW _) (by decide) (by intro u; exact Int.le_refl _) (by decide)
    unfold Cpost at this
    rw [a_cmp2] at this
    exact this)
  have HF := Lib.hid (fun w' (hb : Below w.heap.size w w') => by
    have := cFormat 1 4 2 0 0 0 0 w' (hV.below hb)
    rw [a_fmt] at this
    exact this)
  clear hV
  go_enter Tryz.func4, Tryz.ntmps4
  go_wp2_with fail
  refine (HP1.out _ (Below.refl _ _)).mono ?_
  rintro e w1 ⟨rfl, hb1⟩
  have hx := heap_alloc_new w1 (cBox 1 4 2 0 0 0 0)
  have hb2 := bnext hb1 (below_fresh w1 (cBox 1 4 2 0 0 0 0))
  go_wp2_with fail
  refine (HP2.out _ hb2).mono ?_
  rintro e w3 ⟨rfl, hb3⟩
  have HX := Lib.hid (below_block hx hb3)
  have HB3 := Lib.hid (bnext hb2 hb3)
  obtain ⟨B1, hB1⟩ : ∃ B1, B1 = w1.heap.size := ⟨_, rfl⟩
  rw [← hB1] at HX ⊢
  clear hb1 hb2 hb3 hx HP1 HP2 hB1
  go_wp2_with fail
  have hb4 := below_fresh w3 (cBox 0 0 0 0 0 0 0)
  have z4 := World.size_alloc w3 (cBox 0 0 0 0 0 0 0)
  generalize w3.alloc (cBox 0 0 0 0 0 0 0) = w4 at hb4 z4 ⊢
  have hb5 := below_fresh w4 (.cells #[.int .i64 1, .int .i64 1] 57)
  have hM : RdM (w4.alloc (.cells #[.int .i64 1, .int .i64 1] 57)) (.slice (some ⟨w4.heap.size, 0, none⟩) 1 1) [(1, 1)] := (ownG_fresh hlM 57 w4 [(1, 1)] (by unfold maxLen; simp)).rd
  rw [z4] at hM
  refine (HI.out _ _ hM).mono ?_
  rintro e w6 ⟨v6, rfl, hF6, hb6⟩
  obtain ⟨x6, y6, z6, rfl, h1, h2, h3⟩ := hF6.rd
  have hb6' := bnext hb4 (bnext hb5 hb6)
  have HX6 := Lib.hid (below_block HX.out hb6')
  have HB6 := Lib.hid (bnext HB3.out hb6')
  have H1 := Lib.hid h1
  have H2 := Lib.hid h2
  have H3 := Lib.hid h3
  clear hb4 z4 hb5 hM hF6 hb6 h1 h2 h3 hb6' HI HX HB3
  go_wp2_with fail
  refine (HC1.out _ HB6.out x6 y6 z6 H1.out H2.out H3.out).mono ?_
  rintro e w7 ⟨v7, rfl, hR7, hb7⟩
  obtain ⟨a7, c7, hv7, _, _⟩ := hR7.shape
  rw [show ([(1, 4, 1, 0, 0, 0, 0), (2, 1, 0, 0, 0, 0, 0)] : List Chg).length = 2 from rfl] at hv7
  subst hv7
  have HX7 := Lib.hid (below_block HX6.out hb7)
  have HB7 := Lib.hid (bnext HB6.out hb7)
  clear hR7 hb7 HX6 HB6 HC1 H1 H2 H3
  go_wp2_with fail
  refine (HC2.out _ HB7.out).mono ?_
  rintro e w8 ⟨v8, rfl, hR8, hb8⟩
  have HX8 := Lib.hid (below_block HX7.out hb8)
  have HB8 := Lib.hid (bnext HB7.out hb8)
  clear hR8 hb8 HX7 HB7 HC2
  obtain ⟨⟨c0, c1, c2, c3, c4, c5, c6⟩, _⟩ := row7_atF HX8.out
  go_wp2_with fail
  refine (HF.out _ HB8.out).mono ?_
  rintro e w9 ⟨S, rfl, hS, hb9⟩
  have hs : (S.toList == [106, 111, 105, 110, 32, 52, 32, 119, 101, 105, 103, 104, 116, 32, 50]) = true := by
    rw [ByteArray.toList_eq, hS]; rfl
  have HB9 := Lib.hid (bnext HB8.out hb9)
  clear hS hb9 c0 c1 c2 c3 c4 c5 c6 HX8 HB8 HF
  go_wp2
  go_ret
  exact ⟨rfl, HB9.out⟩

end Go.Proofs.YthgnhaimdkcmeaaGreatDoor
