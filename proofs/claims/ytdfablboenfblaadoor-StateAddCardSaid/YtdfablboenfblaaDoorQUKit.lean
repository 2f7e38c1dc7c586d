/-
  The calls of the laws' own name, Effect and short: valid effects. Conditions: none on the numbers.
-/
import Derived.Test.YtdfablboenfblaaDoorQKI
import Derived.Test.YtdfablboenfblaaDoorQUR
namespace Go.Proofs.YtdfablboenfblaaDoor
open Go.RowKit
open UM (Ef)
open WM (enc dec zig zag Bytes)

namespace UM
/-- The laws' own names, effects. -/
def nm (n : Int) : ByteArray := if ix n 4 = 0 then ⟨#[97]⟩ else if ix n 4 = 1 then ⟨#[98]⟩ else if ix n 4 = 2 then ⟨#[99]⟩ else ⟨#[120, 49]⟩
def efK (n : Int) (b : Bool) : Ef :=
  if b = true then (1, nm (dg n 4 1), nm (dg n 4 2), (dg n 16 3 : Int) - 5, nm (dg n 4 5))
  else if dg n 4 0 = 0 then (2, nm (dg n 4 1), nm (dg n 4 2), (dg n 16 3 : Int) - 5, ⟨#[]⟩)
  else if dg n 4 0 = 1 then (3, nm (dg n 4 1), nm (dg n 4 2), (dg n 16 3 : Int) - 5, ⟨#[]⟩)
  else if dg n 4 0 = 2 then (4, nm (dg n 4 1), nm (dg n 4 2), 0, nm (dg n 4 5))
  else (5, nm (dg n 4 1), nm (dg n 4 2), 0, ⟨#[]⟩)
theorem nm_size (n : Int) : 1 ≤ (nm n).size ∧ (nm n).size ≤ 2 := by
  unfold nm
  (repeat' split) <;> decide
theorem efK_ok (n : Int) (b : Bool) : errE (efK n b) = 0 ∧ in64 (efK n b) ∧ ((efK n b).1 = 1 ↔ b = true) := by
  have h1 := nm_size (dg n 4 1)
  have h2 := nm_size (dg n 4 2)
  have h5 := nm_size (dg n 4 5)
  have h3 := dg_lt n 3 (show 0 < 16 by decide)
  have e0 : (⟨#[]⟩ : ByteArray).size = 0 := rfl
  unfold efK
  generalize nm (dg n 4 1) = o at *
  generalize nm (dg n 4 2) = f at *
  generalize nm (dg n 4 5) = s at *
  generalize dg n 16 3 = v at *
  cases b with
  | true =>
    rw [if_pos rfl]
    refine ⟨?_, ⟨by dsimp only; omega, by dsimp only; omega⟩, by simp⟩
    unfold errE
    dsimp only
    rw [if_neg (by omega), if_neg (by omega), if_neg (by omega), if_neg (by omega), if_neg (by omega), if_neg (by omega)]
  | false =>
    rw [if_neg (by simp)]
    split
    · refine ⟨?_, ⟨by dsimp only; omega, by dsimp only; omega⟩, by simp⟩
      unfold errE
      dsimp only
      rw [e0, if_neg (by omega), if_neg (by omega), if_neg (by omega), if_neg (by omega), if_neg (by omega), if_neg (by omega)]
    split
    · refine ⟨?_, ⟨by dsimp only; omega, by dsimp only; omega⟩, by simp⟩
      unfold errE
      dsimp only
      rw [e0, if_neg (by omega), if_neg (by omega), if_neg (by omega), if_neg (by omega), if_neg (by omega), if_neg (by omega)]
    split
    · refine ⟨?_, ⟨by dsimp only; omega, by dsimp only; omega⟩, by simp⟩
      unfold errE
      dsimp only
      rw [if_neg (by omega), if_neg (by omega), if_neg (by omega), if_neg (by omega), if_neg (by omega), if_neg (by omega)]
    · refine ⟨?_, ⟨by dsimp only; omega, by dsimp only; omega⟩, by simp⟩
      unfold errE
      dsimp only
      rw [e0, if_neg (by omega), if_neg (by omega), if_neg (by omega), if_neg (by omega), if_neg (by omega), if_neg (by omega)]
end UM

set_option maxRecDepth 100000 in
set_option maxHeartbeats 1000000 in
theorem kName (n : Int) (w : World) : Calls Tryd.prog 106 #[.int .i64 n] w fun e w' => e = .returned (.string (UM.nm n)) ∧ Below w.heap.size w w' := by
  obtain ⟨hr0, hr1⟩ := ix_range (n := n) (show (1 : Int) ≤ 4 by decide)
  have hx := heap_alloc_new w (.cells #[.string ⟨#[97]⟩, .string ⟨#[98]⟩, .string ⟨#[99]⟩, .string ⟨#[120, 49]⟩] 9)
  have hb := below_fresh w (.cells #[.string ⟨#[97]⟩, .string ⟨#[98]⟩, .string ⟨#[99]⟩, .string ⟨#[120, 49]⟩] 9)
  obtain ⟨w1, hw1⟩ : ∃ z, w.alloc (.cells #[.string ⟨#[97]⟩, .string ⟨#[98]⟩, .string ⟨#[99]⟩, .string ⟨#[120, 49]⟩] 9) = z := ⟨_, rfl⟩
  rw [hw1] at hx hb
  have HI := Lib.hid (kIndex n 4 w1 (by decide) (by decide))
  have HW := Lib.hid hw1
  have HB := Lib.hid hb
  have c0 : w1.cell? ⟨w.heap.size, 0, none⟩ = some (.string ⟨#[97]⟩) := by simp [World.cell?, hx]
  have c1 : w1.cell? ⟨w.heap.size, 1, none⟩ = some (.string ⟨#[98]⟩) := by simp [World.cell?, hx]
  have c2 : w1.cell? ⟨w.heap.size, 2, none⟩ = some (.string ⟨#[99]⟩) := by simp [World.cell?, hx]
  have c3 : w1.cell? ⟨w.heap.size, 3, none⟩ = some (.string ⟨#[120, 49]⟩) := by simp [World.cell?, hx]
  obtain ⟨R, hR⟩ : ∃ R, R = UM.nm n := ⟨_, rfl⟩
  rw [← hR]
  unfold UM.nm at hR
  have HR := Lib.hid hR
  clear hw1 hb hx hR
  generalize ix n 4 = r at hr0 hr1 HI HR
  go_enter Tryd.func106, Tryd.ntmps106
  go_wp2_with fail
  rw [HW.out]
  refine HI.out.mono ?_
  rintro e w2 ⟨rfl, rfl⟩
  clear HI HW
  rcases (show r = 0 ∨ r = 1 ∨ r = 2 ∨ r = 3 by omega) with rfl | rfl | rfl | rfl
  all_goals
    go_wp2
    go_ret
    exact ⟨by rw [HR.out]; rfl, HB.out⟩

theorem OE.lt {w : World} {B : Nat} {a b c d e : Value} (h : OE w B a b c d e) : B < w.heap.size := (Array.getElem?_eq_some_iff.1 h).1
theorem OE.below {w w' : World} {B : Nat} {a b c d e : Value} (h : OE w B a b c d e) (hb : Below w.heap.size w w') : OE w' B a b c d e := below_block h hb
theorem OE.only {w w' : World} {g B : Nat} {a b c d e : Value} (h : OE w B a b c d e) (ho : Only g w w') (hne : B ≠ g) : OE w' B a b c d e := ho.at h hne
theorem OE.put0 {w : World} {B : Nat} {a b c d e : Value} (h : OE w B a b c d e) (u : Value) : OE (w.setCell ⟨B, 0, none⟩ u) B u b c d e := heap_setCell_same w B 0 _ _ u h
theorem OE.put3 {w : World} {B : Nat} {a b c d e : Value} (h : OE w B a b c d e) (u : Value) : OE (w.setCell ⟨B, 3, none⟩ u) B a b c u e := heap_setCell_same w B 3 _ _ u h
theorem OE.put4 {w : World} {B : Nat} {a b c d e : Value} (h : OE w B a b c d e) (u : Value) : OE (w.setCell ⟨B, 4, none⟩ u) B a b c d u := heap_setCell_same w B 4 _ _ u h

theorem keff_ret {R : Ending → World → Prop} {a : Act} {w : World} {g : Nat} {x0 x1 x2 x3 x4 : Value} (hp : a.tmps.getD 4 undef = .pointer (some ⟨g, 0, none⟩)) (hg : OE w g x0 x1 x2 x3 x4)
    (hd : a.defers = []) (hR : R (.returned (.agg #[x0, x1, x2, x3, x4])) w) : bodyPost Tryd.prog Tryd.f81 R .ret a w :=
  bodyPost_ret (results_cell_row (P := Tryd.prog) rfl a.tmps w g 62 _ _ _ hp hg Tryd.underlying62 rfl (by kernel_rfl)) hd hR

set_option maxRecDepth 100000 in
set_option maxHeartbeats 4000000 in
theorem kEffect (n : Int) (b : Bool) (w : World) : Calls Tryd.prog 81 #[.int .i64 n, .bool b] w fun e w' => e = .returned (efv (UM.efK n b)) ∧ Below w.heap.size w w' := by
  obtain ⟨R, hR⟩ : ∃ R, R = UM.efK n b := ⟨_, rfl⟩
  rw [← hR]
  unfold UM.efK at hR
  have hb0 := below_fresh w (.cells #[.int .i64 0, .string ⟨#[]⟩, .string ⟨#[]⟩, .int .i64 0, .string ⟨#[]⟩] 62)
  have ho0 := OE.fresh w (.int .i64 0) (.string ⟨#[]⟩) (.string ⟨#[]⟩) (.int .i64 0) (.string ⟨#[]⟩)
  obtain ⟨w0, hw0⟩ : ∃ z, w.alloc (.cells #[.int .i64 0, .string ⟨#[]⟩, .string ⟨#[]⟩, .int .i64 0, .string ⟨#[]⟩] 62) = z := ⟨_, rfl⟩
  rw [hw0] at hb0 ho0
  have HW0 := Lib.hid hw0
  have HD0 := Lib.hid (fun w' => kDigit n 4 0 w' (by decide) (by decide) (by decide))
  have HD1 := Lib.hid (fun w' => kDigit n 4 1 w' (by decide) (by decide) (by decide))
  have HD2 := Lib.hid (fun w' => kDigit n 4 2 w' (by decide) (by decide) (by decide))
  have HD3 := Lib.hid (fun w' => kDigit n 16 3 w' (by decide) (by decide) (by decide))
  have HD5 := Lib.hid (fun w' => kDigit n 4 5 w' (by decide) (by decide) (by decide))
  have HB0 := Lib.hid hb0
  have HO0 := Lib.hid ho0
  have hv := dg_lt n 3 (show 0 < 16 by decide)
  have hd := dg_lt n 0 (show 0 < 4 by decide)
  clear hw0 hb0 ho0
  generalize dg n 4 0 = d0 at HD0 hR hd
  generalize dg n 4 1 = d1 at HD1 hR
  generalize dg n 4 2 = d2 at HD2 hR
  generalize dg n 16 3 = d3 at HD3 hR hv
  generalize dg n 4 5 = d5 at HD5 hR
  have HN1 := Lib.hid (fun w' => kName (d1 : Int) w')
  have HN2 := Lib.hid (fun w' => kName (d2 : Int) w')
  have HN5 := Lib.hid (fun w' => kName (d5 : Int) w')
  generalize UM.nm (d1 : Int) = so at HN1 hR
  generalize UM.nm (d2 : Int) = sf at HN2 hR
  generalize UM.nm (d5 : Int) = ss at HN5 hR
  have HR := Lib.hid hR
  clear hR
  go_enter Tryd.func81, Tryd.ntmps81
  go_wp2_with fail
  rw [HW0.out]
  refine (HD1.out _).mono ?_
  rintro e w1 ⟨rfl, rfl⟩
  go_wp2_with fail
  refine (HN1.out _).mono ?_
  rintro e w1 ⟨rfl, hb1⟩
  have HO1 := Lib.hid (HO0.out.below hb1)
  have HB1 := Lib.hid (bnext HB0.out hb1)
  clear hb1 HO0 HB0 HW0 HD1 HN1
  go_wp2_with fail
  refine (HD2.out _).mono ?_
  rintro e w2 ⟨rfl, rfl⟩
  go_wp2_with fail
  refine (HN2.out _).mono ?_
  rintro e w2 ⟨rfl, hb2⟩
  have HO2 := Lib.hid (HO1.out.below hb2)
  have HB2 := Lib.hid (bnext HB1.out hb2)
  clear hb2 HO1 HB1 HD2 HN2
  have fE := below_fresh w2 (.cells #[.int .i64 0, .string so, .string sf, .int .i64 0, .string ⟨#[]⟩] 62)
  have oE := OE.fresh w2 (.int .i64 0) (.string so) (.string sf) (.int .i64 0) (.string ⟨#[]⟩)
  obtain ⟨w3, hw3⟩ : ∃ z, w2.alloc (.cells #[.int .i64 0, .string so, .string sf, .int .i64 0, .string ⟨#[]⟩] 62) = z := ⟨_, rfl⟩
  rw [hw3] at fE oE
  have HW3 := Lib.hid hw3
  have HO3 := Lib.hid (HO2.out.below fE)
  have HB3 := Lib.hid (bnext HB2.out fE)
  have hlt := HO2.out.lt
  have hge : w.heap.size ≤ w2.heap.size := HB2.out.size
  obtain ⟨p, hp⟩ : ∃ p, p = w2.heap.size := ⟨_, rfl⟩
  rw [← hp] at oE hlt hge
  have HP := Lib.hid hp
  have HX3 := Lib.hid oE
  clear fE oE hw3 hp HO2 HB2
  go_wp2_with fail
  rw [HW3.out, ← HP.out]
  refine (HD3.out _).mono ?_
  rintro e w4 ⟨rfl, rfl⟩
  obtain ⟨x0, x1, x2, x3, x4, y0, y1, y2, y3, y4⟩ := HX3.out.cells
  have hN : (d3 : Int) - 5 = (d3 : Int) - 5 := rfl
  generalize hV : (d3 : Int) - 5 = V at HR
  clear hN
  cases b with
  | true =>
    have HFIN := Lib.hid (show R = (1, so, sf, V, ss) by rw [HR.out, if_pos rfl])
    clear HR hd
    go_wp2_with fail
    refine (HD5.out _).mono ?_
    rintro e w4 ⟨rfl, rfl⟩
    have HX4 := Lib.hid ((HX3.out.put0 (.int .i64 1)).put3 (.int .i64 V))
    have hon : Only p w3 ((w3.setCell ⟨p, 0, none⟩ (.int .i64 1)).setCell ⟨p, 3, none⟩ (.int .i64 V)) := (Only.set 0 _).trans (Only.set 3 _)
    have HO4 := Lib.hid (HO3.out.only hon (by omega))
    have HB4 := Lib.hid (seen HB3.out hge hon)
    clear hon HX3 HO3 HB3 x0 x1 x2 x3 x4 y0 y1 y2 y3 y4
    generalize (w3.setCell ⟨p, 0, none⟩ (.int .i64 1)).setCell ⟨p, 3, none⟩ (.int .i64 V) = w4 at HX4 HO4 HB4 ⊢
    go_wp2_with fail
    refine (HN5.out _).mono ?_
    rintro e w5 ⟨rfl, hb5⟩
    have HX5 := Lib.hid (HX4.out.below hb5)
    have HO5 := Lib.hid (HO4.out.below hb5)
    have HB5 := Lib.hid (bnext HB4.out hb5)
    clear hb5 HX4 HO4 HB4 HN5 HD5
    obtain ⟨x0, x1, x2, x3, x4, y0, y1, y2, y3, y4⟩ := HX5.out.cells
    go_upto_region 17 with fail
    have HX6 := Lib.hid (HX5.out.put4 (.string ss))
    have hon : Only p w5 (w5.setCell ⟨p, 4, none⟩ (.string ss)) := Only.set 4 _
    have HO6 := Lib.hid (HO5.out.only hon (by omega))
    have HB6 := Lib.hid (seen HB5.out hge hon)
    clear hon HX5 HO5 HB5 x0 x1 x2 x3 x4 y0 y1 y2 y3 y4
    generalize w5.setCell ⟨p, 4, none⟩ (.string ss) = w6 at HX6 HO6 HB6 ⊢
    obtain ⟨x0, x1, x2, x3, x4, _⟩ := HX6.out.cells
    obtain ⟨o0, o1, o2, o3, o4, g0, g1, g2, g3, g4⟩ := HO6.out.cells
    go_wp2
    refine keff_ret rfl (HO6.out.put5 _ _ _ _ _) rfl ⟨?_, ?_⟩
    · rw [HFIN.out]
    · exact seen HB6.out (Nat.le_refl _) (only5 _ _ _ _ _)
  | false =>
    have hd4 : d0 = 0 ∨ d0 = 1 ∨ d0 = 2 ∨ d0 = 3 := by omega
    clear hd
    rcases hd4 with rfl | rfl | rfl | rfl
    · have HFIN := Lib.hid (show R = (2, so, sf, V, ⟨#[]⟩) by rw [HR.out]; rfl)
      clear HR
      go_wp2_with fail
      refine (HD0.out _).mono ?_
      rintro e w4 ⟨rfl, rfl⟩
      go_upto_region 17 with fail
      have HX6 := Lib.hid ((HX3.out.put0 (.int .i64 2)).put3 (.int .i64 V))
      have hon : Only p w3 ((w3.setCell ⟨p, 0, none⟩ (.int .i64 2)).setCell ⟨p, 3, none⟩ (.int .i64 V)) := (Only.set 0 _).trans (Only.set 3 _)
      have HO6 := Lib.hid (HO3.out.only hon (by omega))
      have HB6 := Lib.hid (seen HB3.out hge hon)
      clear hon HX3 HO3 HB3 x0 x1 x2 x3 x4 y0 y1 y2 y3 y4
      generalize (w3.setCell ⟨p, 0, none⟩ (.int .i64 2)).setCell ⟨p, 3, none⟩ (.int .i64 V) = w6 at HX6 HO6 HB6 ⊢
      obtain ⟨x0, x1, x2, x3, x4, _⟩ := HX6.out.cells
      obtain ⟨o0, o1, o2, o3, o4, g0, g1, g2, g3, g4⟩ := HO6.out.cells
      go_wp2
      refine keff_ret rfl (HO6.out.put5 _ _ _ _ _) rfl ⟨?_, ?_⟩
      · rw [HFIN.out]
      · exact seen HB6.out (Nat.le_refl _) (only5 _ _ _ _ _)
    · have HFIN := Lib.hid (show R = (3, so, sf, V, ⟨#[]⟩) by rw [HR.out]; rfl)
      clear HR
      go_wp2_with fail
      refine (HD0.out _).mono ?_
      rintro e w4 ⟨rfl, rfl⟩
      go_wp2_with fail
      refine (HD0.out _).mono ?_
      rintro e w4 ⟨rfl, rfl⟩
      go_upto_region 17 with fail
      have HX6 := Lib.hid ((HX3.out.put0 (.int .i64 3)).put3 (.int .i64 V))
      have hon : Only p w3 ((w3.setCell ⟨p, 0, none⟩ (.int .i64 3)).setCell ⟨p, 3, none⟩ (.int .i64 V)) := (Only.set 0 _).trans (Only.set 3 _)
      have HO6 := Lib.hid (HO3.out.only hon (by omega))
      have HB6 := Lib.hid (seen HB3.out hge hon)
      clear hon HX3 HO3 HB3 x0 x1 x2 x3 x4 y0 y1 y2 y3 y4
      generalize (w3.setCell ⟨p, 0, none⟩ (.int .i64 3)).setCell ⟨p, 3, none⟩ (.int .i64 V) = w6 at HX6 HO6 HB6 ⊢
      obtain ⟨x0, x1, x2, x3, x4, _⟩ := HX6.out.cells
      obtain ⟨o0, o1, o2, o3, o4, g0, g1, g2, g3, g4⟩ := HO6.out.cells
      go_wp2
      refine keff_ret rfl (HO6.out.put5 _ _ _ _ _) rfl ⟨?_, ?_⟩
      · rw [HFIN.out]
      · exact seen HB6.out (Nat.le_refl _) (only5 _ _ _ _ _)
    · have HFIN := Lib.hid (show R = (4, so, sf, 0, ss) by rw [HR.out]; rfl)
      clear HR
      go_wp2_with fail
      refine (HD0.out _).mono ?_
      rintro e w4 ⟨rfl, rfl⟩
      go_wp2_with fail
      refine (HD0.out _).mono ?_
      rintro e w4 ⟨rfl, rfl⟩
      go_wp2_with fail
      refine (HD0.out _).mono ?_
      rintro e w4 ⟨rfl, rfl⟩
      go_wp2_with fail
      refine (HD5.out _).mono ?_
      rintro e w4 ⟨rfl, rfl⟩
      have HX4 := Lib.hid (HX3.out.put0 (.int .i64 4))
      have hon : Only p w3 (w3.setCell ⟨p, 0, none⟩ (.int .i64 4)) := Only.set 0 _
      have HO4 := Lib.hid (HO3.out.only hon (by omega))
      have HB4 := Lib.hid (seen HB3.out hge hon)
      clear hon HX3 HO3 HB3 x0 x1 x2 x3 x4 y0 y1 y2 y3 y4
      generalize w3.setCell ⟨p, 0, none⟩ (.int .i64 4) = w4 at HX4 HO4 HB4 ⊢
      go_wp2_with fail
      refine (HN5.out _).mono ?_
      rintro e w5 ⟨rfl, hb5⟩
      have HX5 := Lib.hid (HX4.out.below hb5)
      have HO5 := Lib.hid (HO4.out.below hb5)
      have HB5 := Lib.hid (bnext HB4.out hb5)
      clear hb5 HX4 HO4 HB4 HN5 HD5
      obtain ⟨x0, x1, x2, x3, x4, y0, y1, y2, y3, y4⟩ := HX5.out.cells
      go_upto_region 17 with fail
      have HX6 := Lib.hid (HX5.out.put4 (.string ss))
      have hon : Only p w5 (w5.setCell ⟨p, 4, none⟩ (.string ss)) := Only.set 4 _
      have HO6 := Lib.hid (HO5.out.only hon (by omega))
      have HB6 := Lib.hid (seen HB5.out hge hon)
      clear hon HX5 HO5 HB5 x0 x1 x2 x3 x4 y0 y1 y2 y3 y4
      generalize w5.setCell ⟨p, 4, none⟩ (.string ss) = w6 at HX6 HO6 HB6 ⊢
      obtain ⟨x0, x1, x2, x3, x4, _⟩ := HX6.out.cells
      obtain ⟨o0, o1, o2, o3, o4, g0, g1, g2, g3, g4⟩ := HO6.out.cells
      go_wp2
      refine keff_ret rfl (HO6.out.put5 _ _ _ _ _) rfl ⟨?_, ?_⟩
      · rw [HFIN.out]
      · exact seen HB6.out (Nat.le_refl _) (only5 _ _ _ _ _)
    · have HFIN := Lib.hid (show R = (5, so, sf, 0, ⟨#[]⟩) by rw [HR.out]; rfl)
      clear HR
      go_wp2_with fail
      refine (HD0.out _).mono ?_
      rintro e w4 ⟨rfl, rfl⟩
      go_wp2_with fail
      refine (HD0.out _).mono ?_
      rintro e w4 ⟨rfl, rfl⟩
      go_wp2_with fail
      refine (HD0.out _).mono ?_
      rintro e w4 ⟨rfl, rfl⟩
      go_upto_region 17 with fail
      have HX6 := Lib.hid (HX3.out.put0 (.int .i64 5))
      have hon : Only p w3 (w3.setCell ⟨p, 0, none⟩ (.int .i64 5)) := Only.set 0 _
      have HO6 := Lib.hid (HO3.out.only hon (by omega))
      have HB6 := Lib.hid (seen HB3.out hge hon)
      clear hon HX3 HO3 HB3 x0 x1 x2 x3 x4 y0 y1 y2 y3 y4
      generalize w3.setCell ⟨p, 0, none⟩ (.int .i64 5) = w6 at HX6 HO6 HB6 ⊢
      obtain ⟨x0, x1, x2, x3, x4, _⟩ := HX6.out.cells
      obtain ⟨o0, o1, o2, o3, o4, g0, g1, g2, g3, g4⟩ := HO6.out.cells
      go_wp2
      refine keff_ret rfl (HO6.out.put5 _ _ _ _ _) rfl ⟨?_, ?_⟩
      · rw [HFIN.out]
      · exact seen HB6.out (Nat.le_refl _) (only5 _ _ _ _ _)

end Go.Proofs.YtdfablboenfblaaDoor
