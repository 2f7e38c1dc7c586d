/-
  Reading an effect (P11.4): the plain mathematics; the call of the reference's effect. Conditions: the slice reads as bytes.
-/
import Derived.Test.YtcalnapdpnnljaaDoorURef3
namespace Go.Proofs.YtcalnapdpnnljaaDoor
open Go.RowKit
open UM (Ef)
open WM (enc dec zig zag Bytes)

namespace UM
def z0 : Ef := (0, ⟨#[]⟩, ⟨#[]⟩, 0, ⟨#[]⟩)
def decE5 (k : Int) (o f : ByteArray) (n : Int) (xs : List Int) (u : Nat) : Ef × Nat × Int :=
  if (decS (xs.drop u)).2.2 ≠ 0 then (z0, 0, (decS (xs.drop u)).2.2) else ((k, o, f, n, strOfNums (decS (xs.drop u)).1), u + (decS (xs.drop u)).2.1.toNat, 0)
def decE4 (k : Int) (o f : ByteArray) (xs : List Int) (u : Nat) : Ef × Nat × Int :=
  if (dec 0 0 (xs.drop u)).2.2 ≠ 0 then (z0, 0, (dec 0 0 (xs.drop u)).2.2) else decE5 k o f (zag (dec 0 0 (xs.drop u)).1) xs (u + (dec 0 0 (xs.drop u)).2.1.toNat)
def decE3 (k : Int) (o : ByteArray) (xs : List Int) (u : Nat) : Ef × Nat × Int :=
  if (decS (xs.drop u)).2.2 ≠ 0 then (z0, 0, (decS (xs.drop u)).2.2) else decE4 k o (strOfNums (decS (xs.drop u)).1) xs (u + (decS (xs.drop u)).2.1.toNat)
def decE2 (k : Int) (xs : List Int) (u : Nat) : Ef × Nat × Int :=
  if (decS (xs.drop u)).2.2 ≠ 0 then (z0, 0, (decS (xs.drop u)).2.2) else decE3 k (strOfNums (decS (xs.drop u)).1) xs (u + (decS (xs.drop u)).2.1.toNat)
/-- An effect read: the effect, the bytes read, the error. -/
def decE (xs : List Int) : Ef × Nat × Int :=
  if (JM.num xs).2.2 ≠ 0 then (z0, 0, (JM.num xs).2.2) else decE2 (JM.num xs).1 xs (JM.num xs).2.1.toNat
end UM
theorem decS_two {xs : List Int} (hb : Bytes xs) : (∃ e : Int, (e = 1 ∨ e = 2 ∨ e = 9) ∧ decS xs = ([], 0, e)) ∨ ∃ (l : List Int) (n : Nat), decS xs = (l, (n : Int), 0) ∧ n ≤ xs.length := by
  rcases WM.dec_two xs hb with ⟨e, he, hd⟩ | ⟨m, hm, hd, hml, _⟩
  · exact .inl ⟨e, he, decS_err hd (by omega)⟩
  · by_cases hl : (xs.length : Int) - (enc m).length < m
    · exact .inl ⟨1, .inl rfl, decS_short hd hl⟩
    · exact .inr ⟨_, _, decS_ok hd hl, by omega⟩

/-- The value of an effect. -/
abbrev efv (e : Ef) : Value := ev e.1 e.2.1 e.2.2.1 e.2.2.2.1 e.2.2.2.2
/-- Block B is an effect. -/
def OE (w : World) (B : Nat) (a b c d e : Value) : Prop := w.heap[B]? = some (.cells #[a, b, c, d, e] 23 (0, 0))
theorem OE.cells {w : World} {B : Nat} {a b c d e : Value} (h : OE w B a b c d e) : w.cell? ⟨B, 0, none⟩ = some a ∧ w.cell? ⟨B, 1, none⟩ = some b ∧ w.cell? ⟨B, 2, none⟩ = some c ∧ w.cell? ⟨B, 3, none⟩ = some d ∧ w.cell? ⟨B, 4, none⟩ = some e ∧
    w.frozen? ⟨B, 0, none⟩ = false ∧ w.frozen? ⟨B, 1, none⟩ = false ∧ w.frozen? ⟨B, 2, none⟩ = false ∧ w.frozen? ⟨B, 3, none⟩ = false ∧ w.frozen? ⟨B, 4, none⟩ = false := by
  unfold OE at h
  refine ⟨?_, ?_, ?_, ?_, ?_, ?_, ?_, ?_, ?_, ?_⟩ <;> simp [World.cell?, World.frozen?, h]
theorem OE.fresh (w : World) (a b c d e : Value) : OE (w.alloc (.cells #[a, b, c, d, e] 23)) w.heap.size a b c d e := heap_alloc_new w _
theorem OE.put5 {w : World} {B : Nat} {a b c d e : Value} (h : OE w B a b c d e) (a' b' c' d' e' : Value) :
    OE (((((w.setCell ⟨B, 0, none⟩ a').setCell ⟨B, 1, none⟩ b').setCell ⟨B, 2, none⟩ c').setCell ⟨B, 3, none⟩ d').setCell ⟨B, 4, none⟩ e') B a' b' c' d' e' := by
  have h1 : (w.setCell ⟨B, 0, none⟩ a').heap[B]? = some (.cells #[a', b, c, d, e] 23 (0, 0)) := heap_setCell_same w B 0 _ _ _ h
  have h2 : ((w.setCell ⟨B, 0, none⟩ a').setCell ⟨B, 1, none⟩ b').heap[B]? = some (.cells #[a', b', c, d, e] 23 (0, 0)) := heap_setCell_same _ B 1 _ _ _ h1
  have h3 : (((w.setCell ⟨B, 0, none⟩ a').setCell ⟨B, 1, none⟩ b').setCell ⟨B, 2, none⟩ c').heap[B]? = some (.cells #[a', b', c', d, e] 23 (0, 0)) := heap_setCell_same _ B 2 _ _ _ h2
  have h4 : ((((w.setCell ⟨B, 0, none⟩ a').setCell ⟨B, 1, none⟩ b').setCell ⟨B, 2, none⟩ c').setCell ⟨B, 3, none⟩ d').heap[B]? = some (.cells #[a', b', c', d', e] 23 (0, 0)) := heap_setCell_same _ B 3 _ _ _ h3
  exact heap_setCell_same _ B 4 _ _ _ h4
theorem only5 {w : World} {B : Nat} (a b c d e : Value) : Only B w (((((w.setCell ⟨B, 0, none⟩ a).setCell ⟨B, 1, none⟩ b).setCell ⟨B, 2, none⟩ c).setCell ⟨B, 3, none⟩ d).setCell ⟨B, 4, none⟩ e) :=
  ((((Only.set 0 a).trans (Only.set 1 b)).trans (Only.set 2 c)).trans (Only.set 3 d)).trans (Only.set 4 e)
theorem reff_ret {R : Ending → World → Prop} {a : Act} {w : World} {g : Nat} {x0 x1 x2 x3 x4 : Value} {u er : Int} (hp : a.tmps.getD 2 undef = .pointer (some ⟨g, 0, none⟩)) (h3 : a.tmps.getD 3 undef = .int .i64 u) (h4 : a.tmps.getD 4 undef = .int .i64 er) (hg : OE w g x0 x1 x2 x3 x4)
    (hd : a.defers = []) (hR : R (.returned (.tuple #[.agg #[x0, x1, x2, x3, x4], .int .i64 u, .int .i64 er])) w) : bodyPost Tryd.prog Tryd.f49 R .ret a w := by
  have := results_cell_tmp_tmp (P := Tryd.prog) (fn := Tryd.f49) rfl a.tmps w g 23 _ _ _ hp hg Tryd.underlying23 rfl (by kernel_rfl)
  rw [h3, h4] at this
  exact bodyPost_ret this hd hR
/-- 'b[u + n:]' of bytes. -/
theorem Rd.cutS {w : World} {a : Option Addr} {m c : Nat} {xs : List Int} (h : Rd w (.slice a m c) xs) (u n : Nat) (h2 : u + n ≤ xs.length) :
    ∃ v', (∀ w0 : World, (Instr.slice 36 (.slice a m c) (some (.int .i64 ((u : Int) + (n : Int)))) none none).run Tryd.prog w0 = .ok v' w0) ∧ Rd w v' (xs.drop (u + n)) := by
  obtain ⟨a', c', hv, _⟩ := h.shape
  cases hv
  obtain ⟨v', h3, h4⟩ := h.cutL (u + n) h2
  exact ⟨v', fun w0 => by rw [show (u : Int) + (n : Int) = ((u + n : Nat) : Int) from by omega]; exact h3 w0, h4⟩
theorem Rd.cutZ {w : World} {a : Option Addr} {m c : Nat} {xs : List Int} (h : Rd w (.slice a m c) xs) (u : Nat) (h2 : u ≤ xs.length) :
    ∃ v', (∀ w0 : World, (Instr.slice 36 (.slice a m c) (some (.int .i64 (u : Int))) none none).run Tryd.prog w0 = .ok v' w0) ∧ Rd w v' (xs.drop u) := by
  obtain ⟨a', c', hv, _⟩ := h.shape
  cases hv
  exact h.cutL u h2
theorem Rd.len64 {w : World} {v : Value} {xs : List Int} (h : Rd w v xs) : xs.length ≤ 9223372036854775807 := by
  obtain ⟨_, _, _, _, hn1, hn2, hcm, _⟩ := h
  unfold maxLen at hcm
  omega

set_option maxRecDepth 100000 in
set_option maxHeartbeats 4000000 in
theorem rEffect (v : Value) (xs : List Int) (w : World) (h : Rd w v xs) :
    Calls Tryd.prog 49 #[v] w fun e w' => e = .returned (.tuple #[efv (UM.decE xs).1, .int .i64 ((UM.decE xs).2.1 : Int), .int .i64 (UM.decE xs).2.2]) ∧ Below w.heap.size w w' := by
  obtain ⟨R, hR⟩ : ∃ R, R = UM.decE xs := ⟨_, rfl⟩
  rw [← hR]
  have hby := h.bytes
  have hb := below_fresh w (.cells #[.int .i64 0, .string ⟨#[]⟩, .string ⟨#[]⟩, .int .i64 0, .string ⟨#[]⟩] 23)
  have ho := OE.fresh w (.int .i64 0) (.string ⟨#[]⟩) (.string ⟨#[]⟩) (.int .i64 0) (.string ⟨#[]⟩)
  obtain ⟨w0, hw0⟩ : ∃ z, w.alloc (.cells #[.int .i64 0, .string ⟨#[]⟩, .string ⟨#[]⟩, .int .i64 0, .string ⟨#[]⟩] 23) = z := ⟨_, rfl⟩
  rw [hw0] at hb ho
  have hv := h.below hb
  have hxl := h.len64
  have HC1 := Lib.hid (rNumber v xs w0 hv)
  obtain ⟨av, nv, cv', rfl⟩ : ∃ a n c, v = .slice a n c := by obtain ⟨a, c, hv, _⟩ := h.shape; exact ⟨_, _, _, hv⟩
  have HW := Lib.hid hw0
  have HB := Lib.hid hb
  have HO := Lib.hid ho
  have HV := Lib.hid hv
  have HXL := Lib.hid hxl
  obtain ⟨o0, o1, o2, o3, o4, z0, z1, z2, z3, z4⟩ := ho.cells
  clear h hb hw0 ho hv hxl
  unfold UM.decE at hR
  go_enter Tryd.func49, Tryd.ntmps49
  go_wp2_with fail
  rw [HW.out]
  refine HC1.out.mono ?_
  rintro e w1 ⟨rfl, rfl⟩
  clear HC1 HW
  rcases JM.num_two xs hby with ⟨e1, he1, hd⟩ | ⟨m, hm, hd, hml⟩
  · rw [hd] at hR ⊢
    replace hR : R = (UM.z0, 0, e1) := by rw [hR, if_pos (show ¬ e1 = 0 by omega)]
    have HFIN := Lib.hid hR
    have hne : (e1 != 0) = true := bne_t (by omega)
    clear hR hd he1 hby
    go_wp2
    refine reff_ret rfl rfl rfl (HO.out.put5 _ _ _ _ _) rfl ⟨?_, ?_⟩
    · rw [HFIN.out]; rfl
    · exact seen HB.out (Nat.le_refl _) (only5 _ _ _ _ _)
  rw [hd] at hR ⊢
  replace hR : R = UM.decE2 (m : Int) xs (enc m).length := by rw [hR, if_neg (by simp)]; rfl
  clear hd hm
  obtain ⟨k, hk⟩ : ∃ k : Int, k = m := ⟨_, rfl⟩
  obtain ⟨u1, hu1⟩ : ∃ u, u = (enc m).length := ⟨_, rfl⟩
  rw [← hk, ← hu1] at hR
  rw [← hu1] at hml
  simp only [← hk, ← hu1]
  clear hk hu1
  obtain ⟨v1, hs1, hr1⟩ := HV.out.cutZ u1 hml
  have HC2 := Lib.hid (rString v1 _ w0 hr1)
  unfold UM.decE2 at hR
  have hb1 := hr1.bytes
  clear hr1
  go_wp2_with fail
  refine HC2.out.mono ?_
  rintro e w1 ⟨rfl, rfl⟩
  clear HC2 hs1
  rcases decS_two hb1 with ⟨e1, he1, hd⟩ | ⟨l2, n2, hd, hl2⟩
  · rw [hd] at hR ⊢
    replace hR : R = (UM.z0, 0, e1) := by rw [hR, if_pos (show ¬ e1 = 0 by omega)]
    have HFIN := Lib.hid hR
    have hne : (e1 != 0) = true := bne_t (by omega)
    clear hR hd he1 hby
    go_wp2
    refine reff_ret rfl rfl rfl (HO.out.put5 _ _ _ _ _) rfl ⟨?_, ?_⟩
    · rw [HFIN.out]; rfl
    · exact seen HB.out (Nat.le_refl _) (only5 _ _ _ _ _)
  rw [hd] at hR ⊢
  replace hR : R = UM.decE3 k (strOfNums l2) xs (u1 + n2) := by rw [hR, if_neg (by simp)]; rfl
  rw [List.length_drop] at hl2
  have hs2 : u1 + n2 ≤ xs.length := by omega
  generalize strOfNums l2 = so at hR ⊢
  clear hd hl2 hml hb1
  obtain ⟨v1, hs1, hr1⟩ := HV.out.cutS u1 n2 hs2
  have HC2 := Lib.hid (rString v1 _ w0 hr1)
  unfold UM.decE3 at hR
  have hb1 := hr1.bytes
  have hw1 : (u1 : Int) + (n2 : Int) ≤ 9223372036854775807 := by have := HXL.out; omega
  clear hr1
  go_wp2_with fail
  refine HC2.out.mono ?_
  rintro e w1 ⟨rfl, rfl⟩
  clear HC2 hs1
  rcases decS_two hb1 with ⟨e1, he1, hd⟩ | ⟨l3, n3, hd, hl3⟩
  · rw [hd] at hR ⊢
    replace hR : R = (UM.z0, 0, e1) := by rw [hR, if_pos (show ¬ e1 = 0 by omega)]
    have HFIN := Lib.hid hR
    have hne : (e1 != 0) = true := bne_t (by omega)
    clear hR hd he1 hby
    go_wp2
    refine reff_ret rfl rfl rfl (HO.out.put5 _ _ _ _ _) rfl ⟨?_, ?_⟩
    · rw [HFIN.out]; rfl
    · exact seen HB.out (Nat.le_refl _) (only5 _ _ _ _ _)
  rw [hd] at hR ⊢
  replace hR : R = UM.decE4 k so (strOfNums l3) xs (u1 + n2 + n3) := by rw [hR, if_neg (by simp)]; rfl
  rw [List.length_drop] at hl3
  have hs3 : u1 + n2 + n3 ≤ xs.length := by omega
  generalize strOfNums l3 = sf at hR ⊢
  obtain ⟨u2, hu2⟩ : ∃ u, u = u1 + n2 := ⟨_, rfl⟩
  have hc2 : (u1 : Int) + (n2 : Int) = (u2 : Int) := by omega
  rw [← hu2] at hR hs3
  simp only [hc2]
  clear hd hl3 hs2 hb1 hu2 hc2 hw1
  obtain ⟨v1, hs1, hr1⟩ := HV.out.cutS u2 n3 hs3
  have HC2 := Lib.hid (rInt v1 _ w0 hr1)
  unfold UM.decE4 at hR
  have hb1 := hr1.bytes
  have hw1 : (u2 : Int) + (n3 : Int) ≤ 9223372036854775807 := by have := HXL.out; omega
  clear hr1
  go_wp2_with fail
  refine HC2.out.mono ?_
  rintro e w1 ⟨rfl, rfl⟩
  clear HC2 hs1
  rcases WM.dec_two _ hb1 with ⟨e1, he1, hd⟩ | ⟨m4, hm4, hd, hl4, _⟩
  · rw [hd] at hR ⊢
    replace hR : R = (UM.z0, 0, e1) := by rw [hR, if_pos (show ¬ e1 = 0 by omega)]
    have HFIN := Lib.hid hR
    have hne : (e1 != 0) = true := bne_t (by omega)
    clear hR hd he1 hby
    go_wp2
    refine reff_ret rfl rfl rfl (HO.out.put5 _ _ _ _ _) rfl ⟨?_, ?_⟩
    · rw [HFIN.out]; rfl
    · exact seen HB.out (Nat.le_refl _) (only5 _ _ _ _ _)
  rw [hd] at hR ⊢
  replace hR : R = UM.decE5 k so sf (zag (m4 : Int)) xs (u2 + n3 + (enc m4).length) := by rw [hR, if_neg (by simp)]; rfl
  rw [List.length_drop] at hl4
  have hs4 : u2 + n3 + (enc m4).length ≤ xs.length := by omega
  generalize zag (m4 : Int) = vn at hR ⊢
  obtain ⟨u3, hu3⟩ : ∃ u, u = u2 + n3 := ⟨_, rfl⟩
  have hc2 : (u2 : Int) + (n3 : Int) = (u3 : Int) := by omega
  rw [← hu3] at hR hs4
  simp only [hc2]
  clear hd hl4 hs3 hb1 hu3 hc2 hw1 hm4
  generalize (enc m4).length = n4 at hR hs4 ⊢
  obtain ⟨v1, hs1, hr1⟩ := HV.out.cutS u3 n4 hs4
  have HC2 := Lib.hid (rString v1 _ w0 hr1)
  unfold UM.decE5 at hR
  have hb1 := hr1.bytes
  have hw1 : (u3 : Int) + (n4 : Int) ≤ 9223372036854775807 := by have := HXL.out; omega
  clear hr1
  go_wp2_with fail
  refine HC2.out.mono ?_
  rintro e w1 ⟨rfl, rfl⟩
  clear HC2 hs1
  rcases decS_two hb1 with ⟨e1, he1, hd⟩ | ⟨l5, n5, hd, hl5⟩
  · rw [hd] at hR ⊢
    replace hR : R = (UM.z0, 0, e1) := by rw [hR, if_pos (show ¬ e1 = 0 by omega)]
    have HFIN := Lib.hid hR
    have hne : (e1 != 0) = true := bne_t (by omega)
    clear hR hd he1 hby
    go_wp2
    refine reff_ret rfl rfl rfl (HO.out.put5 _ _ _ _ _) rfl ⟨?_, ?_⟩
    · rw [HFIN.out]; rfl
    · exact seen HB.out (Nat.le_refl _) (only5 _ _ _ _ _)
  rw [hd] at hR ⊢
  replace hR : R = ((k, so, sf, vn, strOfNums l5), u3 + n4 + n5, 0) := by rw [hR, if_neg (by simp)]; rfl
  rw [List.length_drop] at hl5
  generalize strOfNums l5 = ss at hR ⊢
  have hw2 : (u3 : Int) + (n4 : Int) + (n5 : Int) ≤ 9223372036854775807 := by have := HXL.out; omega
  have HFIN := Lib.hid hR
  clear hd hl5 hs4 hb1 hR hby
  go_wp2
  refine reff_ret rfl rfl rfl (HO.out.put5 _ _ _ _ _) rfl ⟨?_, ?_⟩
  · rw [HFIN.out]; rfl
  · exact seen HB.out (Nat.le_refl _) (only5 _ _ _ _ _)

end Go.Proofs.YtcalnapdpnnljaaDoor
