/-
  What a statement's reading tells of effects and updates that came in. No conditions beyond those that each lemma names.
-/
import Derived.Lib.SmallJoins
import Derived.Test.YtdfablboenfblaaDoorQKP
import Derived.Test.YtdfablboenfblaaDoorQUR
namespace Go.Proofs.YtdfablboenfblaaDoor
set_option maxRecDepth 100000
open Go.ChangeShapes Go.WideShapes Go.ChangeAt Go.RowKit
open UM (Ef)

/-- What the model says of every effect: a number of 64 bits, strings that are not too long. -/
def EfFit (e : Ef) : Prop := UM.in64 e ∧ e.2.1.size ≤ maxLen ∧ e.2.2.1.size ≤ maxLen ∧ e.2.2.2.2.size ≤ maxLen

section
variable {H : Type} {enc : TypeId × Value → H} {W : World} {n : Nat} {x : DataW H × List MemPlace}

/-- The five cells of an effect. -/
theorem eff_cells {cs : List Value} (h : DataW.trod enc Tryd.prog W 0 (fun _ => true) true n 62 cs = some x) : ∃ e : Ef, cs = encEf e ∧ EfFit e := by
  have k0 : Tryd.prog.cellsOf 3 = 1 := by kernel_rfl
  have k1 : Tryd.prog.cellsOf 9 = 1 := by kernel_rfl
  have k2 : Tryd.prog.cellsOf 2 = 1 := by kernel_rfl
  have k5 : Tryd.prog.cellsOf 62 = 5 := by kernel_rfl
  obtain ⟨xs, m, _, _, hl, hlen, hf⟩ := DataW.trod_struct Tryd.underlying62 h
  rw [k5] at hl
  match xs, hlen, cs, hl with
  | [y0, y1, y2, y3, y4], _, [c0, c1, c2, c3, c4], _ =>
    have g0 := hf 0 _ rfl
    have g1 := hf 1 _ rfl
    have g2 := hf 2 _ rfl
    have g3 := hf 3 _ rfl
    have g4 := hf 4 _ rfl
    simp [k0, k1, k2] at g0 g1 g2 g3 g4
    obtain ⟨a0, e0, _⟩ := DataW.trod_int Tryd.underlying3 g0
    obtain ⟨a1, e1, _, s1⟩ := DataW.trod_string Tryd.underlying9 g1
    obtain ⟨a2, e2, _, s2⟩ := DataW.trod_string Tryd.underlying9 g2
    obtain ⟨a3, e3, _, i3⟩ := DataW.trod_int Tryd.underlying2 g3
    obtain ⟨a4, e4, _, s4⟩ := DataW.trod_string Tryd.underlying9 g4
    simp at e0 e1 e2 e3 e4
    exact ⟨(a0, a1, a2, a3, a4), by rw [e0, e1, e2, e3, e4]; rfl, bounds_i64 i3, s1, s2, s4⟩

theorem cellsE_snoc {xs : List Ef} {e : Ef} {j : Nat} {u : Value} (h : (cellsOf encEf (xs ++ [e]))[j]? = some u) :
    (cellsOf encEf xs)[j]? = some u ∨ ∃ d, d < 5 ∧ j = xs.length * 5 + d ∧ (encEf e)[d]? = some u := by
  have hL := cellsOf_length (enc := encEf) hlEf.2 xs
  rw [cellsOf_append] at h
  rcases Nat.lt_or_ge j (cellsOf encEf xs).length with hl | hl
  · rw [List.getElem?_append_left hl] at h
    exact .inl h
  · rw [List.getElem?_append_right hl, hL] at h
    rw [hL] at hl
    have e1 : cellsOf encEf [e] = encEf e := by simp [cellsOf]
    rw [e1] at h
    have hd : j - xs.length * 5 < 5 := by
      have := (List.getElem?_eq_some_iff.1 h).1
      rw [hlEf.2 e] at this; exact this
    exact .inr ⟨_, hd, by omega, h⟩

theorem rdEf_of_trod {v : Value} (hf : DataW.trod enc Tryd.prog W 0 (fun _ => true) true n 41 [v] = some x) : ∃ xs, RdEf W v xs ∧ ∀ e ∈ xs, EfFit e := by
  have k5 : Tryd.prog.cellsOf 62 = 5 := by kernel_rfl
  rcases Deep.open_slice Tryd.underlying41 hf with ⟨hcs, _⟩ | ⟨y, l, c, m, k, D, P, hcs, _, hl, hm, hmm, _, hall⟩
  · simp at hcs
    subst hcs
    exact ⟨[], RdG.nil hlEf W, by simp⟩
  · simp at hcs
    subst hcs
    simp only [if_true] at hmm
    have hbuild : ∀ j, j ≤ l → ∃ xs : List Ef, xs.length = j ∧ (∀ e ∈ xs, EfFit e) ∧ ∀ i u, (cellsOf encEf xs)[i]? = some u → W.cell? (y.add i) = some u := by
      intro j
      induction j with
      | zero => intro _; exact ⟨[], rfl, by simp, fun i u h => by simp [cellsOf] at h⟩
      | succ j ih =>
        intro hj
        obtain ⟨xs, hp, hfit, hr⟩ := ih (by omega)
        obtain ⟨cs', t0, t1⟩ := hall j (by omega)
        rw [k5] at t0
        obtain ⟨_, hlen, hcell⟩ := World.cells?_some t0
        obtain ⟨e, rfl, he⟩ := eff_cells t1
        refine ⟨xs ++ [e], by simp [hp], fun z hz => ?_, fun i u hu => ?_⟩
        · rcases List.mem_append.1 hz with h | h
          · exact hfit z h
          · rw [List.mem_singleton] at h
            subst h
            exact he
        rcases cellsE_snoc hu with h | ⟨d, hd, rfl, h⟩
        · exact hr i u h
        · have := hcell d hd
          rw [Deep.add_add] at this
          rw [hp, this, h]
    obtain ⟨xs, hp, hfit, hr⟩ := hbuild l (Nat.le_refl _)
    exact ⟨xs, ⟨some y, c, by rw [hp], by omega, hm, (fun h => by cases h), hlEf, fun z hz i u hu => by cases hz; exact hr i u hu⟩, hfit⟩

theorem upd_of_trod {r : Reach} {b0 : Nat} {v : Value} {d : DataW H} {p : List MemPlace} (hv : Value.okWide Tryd.prog W r b0 43 v) (h : DataW.Trod enc Tryd.prog W 0 (fun _ => true) true 43 v d p) :
    ∃ c q t sv es, v = uv c q t sv ∧ RdEf W sv es ∧ ∀ e ∈ es, EfFit e := by
  obtain ⟨cs, rfl, hsz⟩ := okWide_struct Tryd.underlying43 hv
  have hC : cs.size = 4 := hsz.trans (by kernel_rfl)
  have k0 : Tryd.prog.cellsOf 3 = 1 := by kernel_rfl
  have k1 : Tryd.prog.cellsOf 41 = 1 := by kernel_rfl
  obtain ⟨l⟩ := cs
  match l, hC with
  | [c0, c1, c2, c3], _ =>
    obtain ⟨fuel, hf⟩ := h
    obtain ⟨xs, m, _, _, hl, hlen, hf2⟩ := DataW.trod_struct Tryd.underlying43 hf
    match xs, hlen with
    | [y0, y1, y2, y3], _ =>
      have g0 := hf2 0 _ rfl
      have g1 := hf2 1 _ rfl
      have g2 := hf2 2 _ rfl
      have g3 := hf2 3 _ rfl
      simp [k0, k1, Value.cells] at g0 g1 g2 g3
      obtain ⟨a, ha, _⟩ := DataW.trod_int Tryd.underlying3 g0
      obtain ⟨b, hb, _⟩ := DataW.trod_int Tryd.underlying3 g1
      obtain ⟨c, hc, _⟩ := DataW.trod_int Tryd.underlying3 g2
      obtain ⟨es, he, hfit⟩ := rdEf_of_trod g3
      simp at ha hb hc
      exact ⟨a, b, c, c3, es, by rw [ha, hb, hc], he, hfit⟩
end

end Go.Proofs.YtdfablboenfblaaDoor
