/-
  What the laws need of the program's own calls of package update, as one structure. No proof of them here.
-/
import Derived.Test.YtcalnapdpnnljaaDoorUOpen
import Derived.Test.YtcalnapdpnnljaaDoorUKit
import Derived.Test.YtcalnapdpnnljaaDoorUName
namespace Go.Proofs.YtcalnapdpnnljaaDoor
open Go.RowKit
open UM (Ef)

/-- The eight functions of package update do what P11.1 to P11.4 say. -/
structure UC : Prop where
  valE : ∀ (k : Int) (o f : ByteArray) (n : Int) (s : ByteArray) (w : World), Tb w → EfFit (k, o, f, n, s) →
    Calls Tryd.prog 11 #[ev k o f n s] w fun e w' => e = .returned (.int .i64 (UM.errE (k, o, f, n, s))) ∧ Below w.heap.size w w'
  val : ∀ (c q t : Int) (v : Value) (es : List Ef) (w : World), Tb w → RdEf w v es → (∀ e ∈ es, EfFit e) →
    Calls Tryd.prog 14 #[uv c q t v] w fun e w' => e = .returned (.int .i64 (UM.errU c q t es)) ∧ Below w.heap.size w w'
  com : ∀ (c q t : Int) (v : Value) (es : List Ef) (w : World), RdEf w v es →
    Calls Tryd.prog 16 #[uv c q t v] w fun e w' => e = .returned (.bool (UM.com es)) ∧ Below w.heap.size w w'
  cmp : ∀ (c q t : Int) (u : Value) (es : List Ef) (d r y : Int) (v : Value) (fs : List Ef) (w : World), RdEf w u es → RdEf w v fs →
    Calls Tryd.prog 18 #[uv c q t u, uv d r y v] w fun e w' => e = .returned (.int .i64 (UM.cmpU c q d r)) ∧ Below w.heap.size w w'
  bef : ∀ (c q t : Int) (u : Value) (es : List Ef) (d r y : Int) (v : Value) (fs : List Ef) (w : World), RdEf w u es → RdEf w v fs →
    Calls Tryd.prog 20 #[uv c q t u, uv d r y v] w fun e w' => e = .returned (.bool (UM.bef c q t d r y)) ∧ Below w.heap.size w w'
  eq : ∀ (c q t : Int) (u : Value) (es : List Ef) (d r y : Int) (v : Value) (fs : List Ef) (w : World), RdEf w u es → RdEf w v fs →
    Calls Tryd.prog 22 #[uv c q t u, uv d r y v] w fun e w' => e = .returned (.bool (UM.eqU c q t es d r y fs)) ∧ Below w.heap.size w w'
  app : ∀ (b : Value) (bs : List Int) (c q t : Int) (u : Value) (es : List Ef) (w : World), Rd w b bs → RdEf w u es → UM.errU c q t es = 0 → (∀ e ∈ es, EfFit e) → bs.length ≤ 1073741824 →
    Calls Tryd.prog 24 #[b, uv c q t u] w fun e w' => ∃ v', e = .returned v' ∧ Rd w' v' (bs ++ UM.encU c q t es) ∧ Below w.heap.size w w'
  dec : ∀ (b : Value) (xs : List Int) (w : World), Tb w → Rd w b xs →
    Calls Tryd.prog 25 #[b] w fun e w' => ∃ sv, e = .returned (.tuple #[uv (UM.decU xs).2.2.1.1 (UM.decU xs).2.2.1.2.1 (UM.decU xs).2.2.1.2.2 sv, .int .i64 ((UM.decU xs).2.1 : Int), .int .i64 (UM.decU xs).1]) ∧ RdEf w' sv (UM.decU xs).2.2.2 ∧ Below w.heap.size w w'

/-- The update of the laws' awake. -/
def Lu : List Ef := [(1, ⟨#[97]⟩, ⟨#[98]⟩, -7, ⟨#[120]⟩)]
theorem lu_ok : UM.errU 101 1 3 Lu = 0 := by decide +kernel
theorem lu_com : UM.com Lu = false := by decide +kernel
theorem lu_fit : ∀ e ∈ Lu, EfFit e := by
  intro e he
  rw [Lu, List.mem_singleton] at he
  subst he
  refine ⟨⟨by decide, by decide⟩, ?_, ?_, ?_⟩ <;> (show 1 ≤ maxLen; unfold maxLen; omega)
theorem z_fit : EfFit (0, ⟨#[]⟩, ⟨#[]⟩, 0, ⟨#[]⟩) := by
  refine ⟨⟨by decide, by decide⟩, ?_, ?_, ?_⟩ <;> exact Nat.zero_le _
theorem z_err : UM.errE (0, ⟨#[]⟩, ⟨#[]⟩, 0, ⟨#[]⟩) = 10 := by decide +kernel
theorem lu_dec : UM.decU (UM.encU 101 1 3 Lu) = (0, (UM.encU 101 1 3 Lu).length, (101, 1, 3), Lu) := by
  have := UM.decU_enc (tail := []) lu_ok (fun e he => (lu_fit e he).1)
  rw [List.append_nil] at this
  exact this
set_option maxRecDepth 100000 in
set_option maxHeartbeats 4000000 in
theorem cAwake11 (H : UC) (w : World) (hT : Tb w) : Calls Tryd.prog 10 #[] w fun e w' => e = .returned (.bool true) ∧ Below w.heap.size w w' := by
  have b1 := below_fresh w (.cells #[.int .i64 1, .string ⟨#[97]⟩, .string ⟨#[98]⟩, .int .i64 (-7), .string ⟨#[120]⟩] 23)
  have z1 := World.size_alloc w (.cells #[.int .i64 1, .string ⟨#[97]⟩, .string ⟨#[98]⟩, .int .i64 (-7), .string ⟨#[120]⟩] 23)
  have h1 : RdEf (w.alloc (.cells #[.int .i64 1, .string ⟨#[97]⟩, .string ⟨#[98]⟩, .int .i64 (-7), .string ⟨#[120]⟩] 23)) (.slice (some ⟨w.heap.size, 0, none⟩) 1 1) Lu := (ownG_fresh hlEf 23 w Lu (by simp [maxLen, Lu])).rd
  obtain ⟨w1, hw1⟩ : ∃ z, w.alloc (.cells #[.int .i64 1, .string ⟨#[97]⟩, .string ⟨#[98]⟩, .int .i64 (-7), .string ⟨#[120]⟩] 23) = z := ⟨_, rfl⟩
  rw [hw1] at b1 z1 h1
  have b2 := below_fresh w1 (.cells #[.int .i64 101, .int .i64 1, .int .i64 3, .slice (some ⟨w.heap.size, 0, none⟩) 1 1] 30)
  have o2 := OU.fresh w1 101 1 3 (.slice (some ⟨w.heap.size, 0, none⟩) 1 1)
  obtain ⟨w2, hw2⟩ : ∃ z, w1.alloc (.cells #[.int .i64 101, .int .i64 1, .int .i64 3, .slice (some ⟨w.heap.size, 0, none⟩) 1 1] 30) = z := ⟨_, rfl⟩
  rw [hw2] at b2 o2
  rw [z1] at o2
  have r2 := h1.below b2
  have HW := Lib.hid (show (w.alloc (.cells #[.int .i64 1, .string ⟨#[97]⟩, .string ⟨#[98]⟩, .int .i64 (-7), .string ⟨#[120]⟩] 23)).alloc (.cells #[.int .i64 101, .int .i64 1, .int .i64 3, .slice (some ⟨w.heap.size, 0, none⟩) 1 1] 30) = w2 by rw [hw1, hw2])
  have HB2 := Lib.hid (bnext b1 b2)
  have HT := Lib.hid hT
  clear hT
  have HU2 := Lib.hid o2
  have HR2 := Lib.hid r2
  have HA := Lib.hid (H.app (.slice none 0 0) [] 101 1 3 _ Lu w2 (Rd.nil w2) r2 lu_ok lu_fit (by simp))
  obtain ⟨c0, c1, c2, c3, _⟩ := o2.cells
  clear h1 hw1 hw2 b1 b2 r2 o2 z1
  go_enter Tryd.func10, Tryd.ntmps10
  go_upto_region 2 with fail
  rw [HW.out]
  go_wp2_with fail
  refine HA.out.mono ?_
  rintro e w3 ⟨v3, rfl, hown, hb3⟩
  rw [List.nil_append] at hown
  have HD := Lib.hid (by have := H.dec v3 _ w3 ((HT.out.below HB2.out).below hb3) hown; rw [lu_dec] at this; exact this)
  have HB3 := Lib.hid hb3
  obtain ⟨a3, cp3, rfl, _⟩ := hown.shape
  have hpos : (0 : Int) < ((UM.encU 101 1 3 Lu).length : Int) := by have := UM.encU_pos 101 1 3 Lu; omega
  generalize (UM.encU 101 1 3 Lu).length = L at HD hpos
  clear HA hown hb3 c0 c1 c2 c3
  go_wp2_with fail
  refine HD.out.mono ?_
  rintro e w4 ⟨sv, rfl, hr4, hb4⟩
  obtain ⟨as4, cs4, rfl, _, _⟩ := hr4.shape
  have HB4 := Lib.hid (bnext HB3.out hb4)
  have b5 := below_fresh w4 (.cells #[.int .i64 101, .int .i64 1, .int .i64 3, .slice as4 Lu.length cs4] 30)
  have o5 := OU.fresh w4 101 1 3 (.slice as4 Lu.length cs4)
  obtain ⟨w5, hw5⟩ : ∃ z, w4.alloc (.cells #[.int .i64 101, .int .i64 1, .int .i64 3, .slice as4 Lu.length cs4] 30) = z := ⟨_, rfl⟩
  rw [hw5] at b5 o5
  have HW5 := Lib.hid hw5
  have HB5 := Lib.hid (bnext HB4.out b5)
  have HV5 := Lib.hid o5
  have HS5 := Lib.hid (hr4.below b5)
  have HU5 := Lib.hid (HU2.out.below HB5.out)
  have HR5 := Lib.hid (HR2.out.below HB5.out)
  clear hr4 hb4 b5 o5 hw5 HB4 HB3 HD
  obtain ⟨g5, hg5⟩ : ∃ g, g = w4.heap.size := ⟨_, rfl⟩
  rw [← hg5] at HV5
  obtain ⟨c0, c1, c2, c3, _⟩ := HU5.out.cells
  obtain ⟨d0, d1, d2, d3, _⟩ := HV5.out.cells
  have HEQ := Lib.hid (fun w' (hb : Below w5.heap.size w5 w') => H.eq 101 1 3 _ Lu 101 1 3 _ Lu w' (HR5.out.below hb) (HS5.out.below hb))
  have HRQ := Lib.hid (fun w' (hb : Below w5.heap.size w5 w') => rEqU 101 1 3 _ Lu 101 1 3 _ Lu w' (HR5.out.below hb) (HS5.out.below hb))
  have HT5 := Lib.hid (HT.out.below (bnext HB2.out HB5.out))
  have HVA := Lib.hid (fun w' (hb : Below w5.heap.size w5 w') => H.val 101 1 3 _ Lu w' (HT5.out.below hb) (HR5.out.below hb) lu_fit)
  have HCO := Lib.hid (fun w' (hb : Below w5.heap.size w5 w') => H.com 101 1 3 _ Lu w' (HR5.out.below hb))
  have HCM := Lib.hid (fun w' (hb : Below w5.heap.size w5 w') => H.cmp 101 1 3 _ Lu 102 0 0 (.slice none 0 0) [] w' (HR5.out.below hb) (RdG.nil hlEf w'))
  have HBE := Lib.hid (fun w' (hb : Below w5.heap.size w5 w') => H.bef 101 1 3 _ Lu 101 1 3 _ Lu w' (HR5.out.below hb) (HS5.out.below hb))
  have HVE := Lib.hid (fun w' (ht : Tb w') => H.valE 0 ⟨#[]⟩ ⟨#[]⟩ 0 ⟨#[]⟩ w' ht z_fit)
  rw [UM.eqU_self] at HEQ HRQ
  rw [lu_ok] at HVA
  rw [lu_com] at HCO
  rw [show UM.cmpU 101 1 102 0 = -1 by decide] at HCM
  rw [UM.bef_self] at HBE
  rw [z_err] at HVE
  go_upto_region 4 with fail
  rw [HW5.out, ← hg5]
  clear hg5 HW5 HW HU2 HR2
  have H5B := Lib.hid (Below.refl w5.heap.size w5)
  go_wp2_with fail
  refine (HEQ.out _ H5B.out).mono ?_
  rintro e w10 ⟨rfl, hb10⟩
  have H10B := Lib.hid (bnext H5B.out hb10)
  clear c0 c1 c2 c3 d0 d1 d2 d3 hb10
  obtain ⟨c0, c1, c2, c3, _⟩ := (HU5.out.below H10B.out).cells
  obtain ⟨d0, d1, d2, d3, _⟩ := (HV5.out.below H10B.out).cells
  go_wp2_with fail
  refine (HRQ.out _ H10B.out).mono ?_
  rintro e w11 ⟨rfl, hb11⟩
  have H11B := Lib.hid (bnext H10B.out hb11)
  clear c0 c1 c2 c3 d0 d1 d2 d3 hb11
  obtain ⟨c0, c1, c2, c3, _⟩ := (HU5.out.below H11B.out).cells
  obtain ⟨d0, d1, d2, d3, _⟩ := (HV5.out.below H11B.out).cells
  go_wp2_with fail
  refine (HVA.out _ H11B.out).mono ?_
  rintro e w12 ⟨rfl, hb12⟩
  have H12B := Lib.hid (bnext H11B.out hb12)
  clear c0 c1 c2 c3 d0 d1 d2 d3 hb12
  obtain ⟨c0, c1, c2, c3, _⟩ := (HU5.out.below H12B.out).cells
  obtain ⟨d0, d1, d2, d3, _⟩ := (HV5.out.below H12B.out).cells
  go_wp2_with fail
  refine (HCO.out _ H12B.out).mono ?_
  rintro e w13 ⟨rfl, hb13⟩
  have H13B := Lib.hid (bnext H12B.out hb13)
  clear c0 c1 c2 c3 d0 d1 d2 d3 hb13
  obtain ⟨c0, c1, c2, c3, _⟩ := (HU5.out.below H13B.out).cells
  obtain ⟨d0, d1, d2, d3, _⟩ := (HV5.out.below H13B.out).cells
  go_wp2_with fail
  refine (HCM.out _ H13B.out).mono ?_
  rintro e w14 ⟨rfl, hb14⟩
  have H14B := Lib.hid (bnext H13B.out hb14)
  clear c0 c1 c2 c3 d0 d1 d2 d3 hb14
  obtain ⟨c0, c1, c2, c3, _⟩ := (HU5.out.below H14B.out).cells
  obtain ⟨d0, d1, d2, d3, _⟩ := (HV5.out.below H14B.out).cells
  go_wp2_with fail
  refine (HBE.out _ H14B.out).mono ?_
  rintro e w15 ⟨rfl, hb15⟩
  have H15B := Lib.hid (bnext H14B.out hb15)
  clear c0 c1 c2 c3 d0 d1 d2 d3 hb15
  obtain ⟨c0, c1, c2, c3, _⟩ := (HU5.out.below H15B.out).cells
  obtain ⟨d0, d1, d2, d3, _⟩ := (HV5.out.below H15B.out).cells
  go_wp2_with fail
  refine (HVE.out _ (HT5.out.below H15B.out)).mono ?_
  rintro e w20 ⟨rfl, hb20⟩
  have HEND := Lib.hid (bnext HB2.out (bnext HB5.out (bnext H15B.out hb20)))
  go_wp2
  go_ret
  exact ⟨rfl, HEND.out⟩

end Go.Proofs.YtcalnapdpnnljaaDoor
