/-
  The call of the laws' view: a valid view of at most seven members. No conditions.
-/
import Derived.Deep.RegionLaw
import Derived.Deep.AppendLies
import Derived.Test.YtbbgjckiooejhaaQKit
import Derived.Test.YtbbgjckiooejhaaQVisit
namespace Go.Proofs.Ytbbgjckiooejhaa
open Go.RowKit
open QM (Mem)

section
variable {α : Type} {P : Program} {t e : TypeId} {size bytes : Nat} {enc : α → List Value}
variable {w : World} {ops : Array Oper} {o : Oper} {a : Act} {K : Act → World → Prop} {Q : Exit → Act → World → Prop} {F : Prop} {base : Nat} {v : Value} {ys : List α}
/-- 'append(out, x)' as one step of a region that draws its order. -/
theorem step_appG1 (E : IsElem P t e size bytes enc) (x : α) (hgd : o.guard = none) (s r : Operand) (ho : o.op = .call { callee := .builtin .append, args := #[s, r], argTypes := #[t, t] })
    (hs : a.eval s = v) (hown : OwnG enc e size base w v ys) (hx : a.eval r = .slice (some ⟨w.heap.size, 0, none⟩) 1 1) (hlen : ys.length ≤ 1073741824) (hb : base ≤ w.heap.size)
    (h : ∀ v' w', OwnG enc e size base w' v' (ys ++ [x]) → Below base w w' → KeepsX e w w' → K (a.put o.dst v') w') :
    if Region.wanted o (yielded ops a.tmps) = true then Oper.wp P o a (w.alloc (.cells (enc x).toArray e)) K Q else F := by
  obtain ⟨i0, z, hi, hz0, hz1, hz2, hz3⟩ := E.info
  have hown' := World.ownsRow.alloc hown.1 (.cells (enc x).toArray e)
  refine step_append_lies (w := w.alloc (.cells (enc x).toArray e)) hgd s r t ho base e i0 z size bytes E.ht hi hz0 hz1 hz2 hz3 E.pos _ _ _ hs hown' ⟨w.heap.size, 0, none⟩ 1 1 (enc x) hx (by rw [E.len, Nat.one_mul]) ?_ (E.one x) (by decide) ?_ ?_ ?_ _ rfl ?_
  · intro j u hu
    rw [addr_plain, Nat.zero_add, World.cell?_alloc_new]
    simpa using hu
  · unfold maxLen; omega
  · have := E.fits
    calc (ys.length + 1) * bytes ≤ (1073741824 + 1) * 4096 := Nat.mul_le_mul (by omega) this
      _ ≤ 140737488355328 := by decide
  · simp; omega
  · intro g cap w1 ho1 hg1 _ _
    have hk0 : KeepsX e w (w.alloc (.cells (enc x).toArray e)) := Below.keepsX (below_fresh w _) e
    refine h _ w1 ⟨?_, hown.2⟩ (((Below.refl _ _).alloc hb _).grown hg1 (by simp; omega) (fun k hk => (World.ownsRow.lt hown.1 k hk).1)) (hk0.trans (by simp) (keepsX_grown hown' hg1))
    rw [cellsOf_append, List.length_append]
    simpa [cellsOf] using ho1
end

/-- A view in a block of its own, the block written out. -/
def OBox (w : World) (B : Nat) (s : Value) (k c f : Int) : Prop := w.heap[B]? = some (.cells #[s, .int .i64 k, .int .i64 c, .int .i64 f] 26 (0, 0))
theorem OBox.cells {w : World} {B : Nat} {s : Value} {k c f : Int} (h : OBox w B s k c f) : w.cell? ⟨B, 0, none⟩ = some s ∧ w.cell? ⟨B, 1, none⟩ = some (.int .i64 k) ∧ w.cell? ⟨B, 2, none⟩ = some (.int .i64 c) ∧ w.cell? ⟨B, 3, none⟩ = some (.int .i64 f) ∧
    w.frozen? ⟨B, 0, none⟩ = false ∧ w.frozen? ⟨B, 1, none⟩ = false ∧ w.frozen? ⟨B, 2, none⟩ = false ∧ w.frozen? ⟨B, 3, none⟩ = false := by
  unfold OBox at h
  refine ⟨?_, ?_, ?_, ?_, ?_, ?_, ?_, ?_⟩ <;> simp [World.cell?, World.frozen?, h]
theorem OBox.lt {w : World} {B : Nat} {s : Value} {k c f : Int} (h : OBox w B s k c f) : B < w.heap.size := (Array.getElem?_eq_some_iff.1 h).1
theorem OBox.vbox {w : World} {B : Nat} {s : Value} {k c f : Int} (h : OBox w B s k c f) : VBox w B s k c f := ⟨h.lt, h.cells.1, h.cells.2.1, h.cells.2.2.1, h.cells.2.2.2.1⟩
theorem OBox.below {w w' : World} {B : Nat} {s : Value} {k c f : Int} (h : OBox w B s k c f) (hb : Below w.heap.size w w') : OBox w' B s k c f := by
  unfold OBox; rw [hb.block B h.lt]; exact h
theorem OBox.keep {w w' : World} {e : TypeId} {B : Nat} {s : Value} {k c f : Int} (h : OBox w B s k c f) (he : e ≠ 26) (hk : KeepsX e w w') : OBox w' B s k c f := by
  unfold OBox
  rw [hk B h.lt (by intro cur fr he'; rw [h] at he'; injection he' with he'; injection he' with _ ht; exact he ht.symm)]; exact h
theorem OBox.fresh (w : World) (s : Value) (k c f : Int) : OBox (w.alloc (.cells #[s, .int .i64 k, .int .i64 c, .int .i64 f] 26)) w.heap.size s k c f := heap_alloc_new w _
theorem OBox.put {w : World} {B : Nat} {s u : Value} {k c f : Int} (h : OBox w B s k c f) : OBox (w.setCell ⟨B, 0, none⟩ u) B u k c f := by
  unfold OBox at h ⊢
  simp [World.setCell, Array.getElem?_modify, h]
theorem OBox.other {w : World} {B : Nat} {s u : Value} {k c f : Int} {a : Addr} (h : OBox w B s k c f) (hne : B ≠ a.block) : OBox (w.setCell a u) B s k c f := by
  unfold OBox; rw [Below.heap_setCell _ _ _ _ hne]; exact h
theorem ownM_set {base : Nat} {w : World} {v u : Value} {ms : List Mem} {B : Nat} {s : Value} {k c f : Int} (h : OwnM base w v ms) (hB : OBox w B s k c f) (a : Addr) (ha : a.block = B) : OwnM base (w.setCell a u) v ms := by
  refine ⟨⟨h.1.1, ?_⟩, h.2⟩
  rcases h.1.2 with h6 | ⟨gg, cap, cur, hv, hgg, hh, r⟩
  · exact .inl h6
  · refine .inr ⟨gg, cap, cur, hv, hgg, ?_, r⟩
    rw [Below.heap_setCell _ _ _ _ (by rw [ha]; rintro rfl; rw [OBox] at hB; rw [hB] at hh; injection hh with hh; injection hh with _ ht; exact absurd ht (by decide))]
    exact hh

theorem OBox.put4 {w : World} {B : Nat} {s0 s : Value} {k0 c0 f0 k c f : Int} (h : OBox w B s0 k0 c0 f0) : OBox ((((w.setCell ⟨B, 0, none⟩ s).setCell ⟨B, 1, none⟩ (.int .i64 k)).setCell ⟨B, 2, none⟩ (.int .i64 c)).setCell ⟨B, 3, none⟩ (.int .i64 f)) B s k c f := by
  unfold OBox at h ⊢
  simp [World.setCell, Array.getElem?_modify, h]
theorem ownM_put4 {base : Nat} {w : World} {v : Value} {ms : List Mem} {B : Nat} {s0 s : Value} {k0 c0 f0 k c f : Int} (h : OwnM base w v ms) (hB : OBox w B s0 k0 c0 f0) :
    OwnM base ((((w.setCell ⟨B, 0, none⟩ s).setCell ⟨B, 1, none⟩ (.int .i64 k)).setCell ⟨B, 2, none⟩ (.int .i64 c)).setCell ⟨B, 3, none⟩ (.int .i64 f)) v ms := by
  refine ⟨⟨h.1.1, ?_⟩, h.2⟩
  rcases h.1.2 with h6 | ⟨gg, cap, cur, hv, hgg, hh, r⟩
  · exact .inl h6
  · have hne : gg ≠ B := by rintro rfl; rw [OBox] at hB; rw [hB] at hh; injection hh with hh; injection hh with _ ht; exact absurd ht (by decide)
    refine .inr ⟨gg, cap, cur, hv, hgg, ?_, r⟩
    rw [Below.heap_setCell _ _ _ _ hne, Below.heap_setCell _ _ _ _ hne, Below.heap_setCell _ _ _ _ hne, Below.heap_setCell _ _ _ _ hne]
    exact hh

theorem val_snoc {m : Mem} : ∀ {p : Int} {ms : List Mem}, QM.Val p ms → (∀ x ∈ ms, x.1 < m.1) → p < m.1 → 1 ≤ m.1 → m.1 ≤ 12 → 1 ≤ m.2 → m.2 ≤ 9 → QM.Val p (ms ++ [m])
  | p, [], _, _, h1, h2, h3, h4, h5 => QM.errM_val.1 (by
      show (if QM.off m = true then (9 : Int) else if m.1 ≤ p then 7 else 0) = 0
      rw [if_neg (by unfold QM.off; simp; omega), if_neg (by omega)])
  | p, x :: ms, hv, hl, h1, h2, h3, h4, h5 => by
    unfold QM.Val at hv ⊢
    exact ⟨hv.1, hv.2.1, hv.2.2.1, hv.2.2.2.1, hv.2.2.2.2.1, val_snoc hv.2.2.2.2.2 (fun y hy => hl y (by simp [hy])) (hl x (by simp)) h2 h3 h4 h5⟩

theorem view_ret {R : Ending → World → Prop} {a : Act} {w : World} {g : Nat} {s : Value} {k c f : Int} (hp : a.tmps.getD 4 undef = .pointer (some ⟨g, 0, none⟩)) (hg : OBox w g s k c f)
    (hd : a.defers = []) (hR : R (.returned (vw s k c f)) w) : bodyPost Try.prog Try.f22 R .ret a w :=
  bodyPost_ret (results_cell_row (P := Try.prog) rfl a.tmps w g 26 _ _ _ hp hg Try.underlying26 rfl (by kernel_rfl)) hd hR

set_option maxRecDepth 100000 in
set_option maxHeartbeats 4000000 in
theorem kView (n m : Int) (w : World) : Calls Try.prog 22 #[.int .i64 n, .int .i64 m] w fun e w' =>
    ∃ sv k c f ms, e = .returned (vw sv k c f) ∧ OwnM w.heap.size w' sv ms ∧ QM.errV k c f ms = 0 ∧ ms.length ≤ 7 ∧ Below w.heap.size w w' := by
  have HK := Lib.hid (kRule n)
  have hA := OBox.fresh w (.slice none 0 0) 0 0 0
  have hB := below_fresh w (.cells #[.slice none 0 0, .int .i64 0, .int .i64 0, .int .i64 0] 26)
  have hs := World.size_alloc w (.cells #[.slice none 0 0, .int .i64 0, .int .i64 0, .int .i64 0] 26)
  generalize hw0 : w.alloc (.cells #[.slice none 0 0, .int .i64 0, .int .i64 0, .int .i64 0] 26) = w0 at hA hB hs
  have HW0 := Lib.hid hw0
  have HA := Lib.hid hA
  have HB := Lib.hid hB
  have HS := Lib.hid hs
  clear hw0 hA hB hs
  go_enter Try.func22, Try.ntmps22
  go_wp2_with fail
  rw [HW0.out]
  refine (HK.out _).mono ?_
  rintro e w1 ⟨k, c, f, rfl, hk, hb1⟩
  have HA1 := Lib.hid (HA.out.below hb1)
  have HB1 := Lib.hid (bnext HB.out hb1)
  have HE := Lib.hid hk
  have HAB := Lib.hid (show w.heap.size < w1.heap.size from by have := hb1.size; have := HS.out; omega)
  clear HK HW0 HA HB HS hb1 hk
  go_wp2
  have hX := OBox.fresh w1 (.slice none 0 0) k c f
  have hf2 := below_fresh w1 (.cells #[.slice none 0 0, .int .i64 k, .int .i64 c, .int .i64 f] 26)
  have HA2 := Lib.hid (HA1.out.below hf2)
  have HB2 := Lib.hid (bnext HB1.out hf2)
  have HX2 := Lib.hid hX
  have HSB := Lib.hid (show w1.heap.size < (w1.alloc (.cells #[.slice none 0 0, .int .i64 k, .int .i64 c, .int .i64 f] 26)).heap.size by rw [World.size_alloc]; omega)
  clear hX hf2 HA1 HB1
  generalize w1.alloc (.cells #[.slice none 0 0, .int .i64 k, .int .i64 c, .int .i64 f] 26) = w2 at HA2 HB2 HX2 HSB ⊢
  generalize hgA : w.heap.size = A at HA2 HAB ⊢
  generalize w1.heap.size = B at HX2 HAB HSB ⊢
  have HGA := Lib.hid hgA
  clear hgA
  go_loopw [6] (fun i wr => ∃ (j : Nat) (sv : Value) (ms : List Mem), j ≤ 7 ∧ ms.length ≤ j ∧ i = .int .i64 j ∧ Hid (OBox wr B sv k c f) ∧ Hid (OBox wr A (.slice none 0 0) 0 0 0) ∧ Hid (OwnM w2.heap.size wr sv ms) ∧ Hid (QM.Val 0 ms ∧ ∀ x ∈ ms, x.1 < (j : Int) + 1) ∧ Hid (Below w2.heap.size w2 wr ∨ True) ∧ Hid (Below w.heap.size w wr) ∧ Hid (w2.heap.size ≤ wr.heap.size)) (fun i _ => 7 - (intOf i).toNat)
  case atStart => exact ⟨0, _, [], by decide, by decide, rfl, HX2.out, HA2.out, OwnG.nil hlM _ _ _, ⟨trivial, fun x h => by cases h⟩, .inr trivial, HB2.out, Nat.le_refl _⟩
  case round =>
    obtain ⟨j, sv, ms, hj, hml, rfl, hx, ha, ho, hv, _, hb, hsz⟩ := hrel
    obtain ⟨asv, csv, rfl, hcsv, _⟩ := ho.out.rd.shape
    clear HX2 HA2 HB2
    by_cases hlt : j < 7
    · have hq : (j : Int) < 7 := by omega
      have hd := fun w => kDigit m 4 j w (by decide) (by decide) (by omega)
      have hdl := dg_lt m j (show 0 < 4 by decide)
      generalize dg m 4 j = d at hd hdl
      have HD := Lib.hid hd
      clear hd
      obtain ⟨b0, b1, b2, b3, f0, f1, f2, f3⟩ := hx.out.cells
      by_cases h0 : 0 < d
      · have hz : (0 : Int) < (d : Int) := by omega
        have hsum : IntKind.i64.wrap ((j : Int) + 1) = (j : Int) + 1 := IntWalk.i64_in _ (by omega)
        have hsz' : w2.heap.size ≤ wr.drew.heap.size := hsz.out
        have hmb : ms.length ≤ 1073741824 := by omega
        have c0 : wr.drew.cell? ⟨B, 0, none⟩ = some (.slice asv ms.length csv) := b0
        have c1 : (wr.alloc (.cells #[.int .i64 ((j : Int) + 1), .int .i64 (d : Int)] 44)).cell? ⟨B, 0, none⟩ = some (.slice asv ms.length csv) := below_cell (below_fresh wr _) b0
        have HOD := Lib.hid (show OwnM w2.heap.size wr.drew (.slice asv ms.length csv) ms from ho.out)
        go_wp2_with (go_at_call 29; refine (HD.out _).mono ?_; rintro e w2 ⟨rfl, rfl⟩)
        go_region_law (first
          | (go_simp; go_at_call 29; refine (HD.out _).mono ?_; rintro e w2 ⟨rfl, rfl⟩)
          | (refine step_appG1 memE ((j : Int) + 1, (d : Int)) rfl _ _ rfl rfl HOD.out rfl hmb hsz' ?_; intro v5 w5 ho5 hb5 hk5; obtain ⟨av5, cv5, rfl, _, _⟩ := ho5.rd.shape; have x5 := (OBox.keep (e := 44) (show OBox wr.drew B (.slice asv ms.length csv) k c f from hx.out) (by decide) hk5).cells; have x50 := x5.1; have x5f := x5.2.2.2.2.1))
        all_goals
          have hx5 : OBox w5 B (.slice asv ms.length csv) k c f := OBox.keep (e := 44) (show OBox wr.drew B (.slice asv ms.length csv) k c f from hx.out) (by decide) hk5
          have ha5 : OBox w5 A (.slice none 0 0) 0 0 0 := OBox.keep (e := 44) (show OBox wr.drew A (.slice none 0 0) 0 0 0 from ha.out) (by decide) hk5
          have el : (ms ++ [((j : Int) + 1, (d : Int))]).length = ms.length + 1 := by simp
          rw [el] at ho5
          have hA1 := HAB.out
          have hA2 := HSB.out
          have hA3 := HGA.out
          have HX6 := Lib.hid (hx5.put (u := .slice av5 (ms.length + 1) cv5))
          have HA6 := Lib.hid (ha5.other (u := .slice av5 (ms.length + 1) cv5) (a := ⟨B, 0, none⟩) (show A ≠ B by omega))
          have HO6 := Lib.hid (ownM_set (u := .slice av5 (ms.length + 1) cv5) ho5 hx5 ⟨B, 0, none⟩ rfl)
          have HV6 := Lib.hid (show QM.Val 0 (ms ++ [((j : Int) + 1, (d : Int))]) ∧ ∀ x ∈ ms ++ [((j : Int) + 1, (d : Int))], x.1 < ((j + 1 : Nat) : Int) + 1 from ⟨val_snoc hv.out.1 hv.out.2 (by show (0 : Int) < (j : Int) + 1; omega) (by show (1 : Int) ≤ (j : Int) + 1; omega) (by show (j : Int) + 1 ≤ 12; omega) (by show (1 : Int) ≤ (d : Int); omega) (by show (d : Int) ≤ 9; omega), fun x hx => by
            rcases List.mem_append.1 hx with h | h
            · have := hv.out.2 x h; omega
            · rw [List.mem_singleton] at h; subst h; show (j : Int) + 1 < _; omega⟩)
          have HB6 := Lib.hid (Below.setCell (p := ⟨B, 0, none⟩) (hb.out.drew.trans (hb5.mono (by omega : w.heap.size ≤ w2.heap.size))) (by show w.heap.size ≤ B; omega) (.slice av5 (ms.length + 1) cv5))
          have HSZ6 := Lib.hid (show w2.heap.size ≤ (w5.setCell ⟨B, 0, none⟩ (.slice av5 (ms.length + 1) cv5)).heap.size by
            have h1 := hb5.size
            have h2 : wr.drew.heap.size = wr.heap.size := rfl
            have h3 := hsz.out
            have h4 : (w5.setCell ⟨B, 0, none⟩ (.slice av5 (ms.length + 1) cv5)).heap.size = w5.heap.size := by simp [World.setCell]
            omega)
          clear hx5 ha5 ho5 hb5 hk5 x5 x50 x5f c0 c1 b0 b1 b2 b3 f0 f1 f2 f3 hsz' HOD hx ha ho hv hb hsz hA1 hA2 hA3
          generalize w5.setCell ⟨B, 0, none⟩ (.slice av5 (ms.length + 1) cv5) = w6 at HX6 HA6 HO6 HB6 HSZ6 ⊢
          go_wp2
          go_round
          case rel => exact ⟨j + 1, _, ms ++ [((j : Int) + 1, (d : Int))], by omega, by omega, by go_num, HX6, HA6, HO6, HV6, .inr trivial, HB6, HSZ6⟩
          case measure => simp [intOf]; omega
      · have hz : ¬ (0 : Int) < (d : Int) := by omega
        go_wp2_with (go_at_call 29; refine (HD.out _).mono ?_; rintro e w2 ⟨rfl, rfl⟩)
        go_round
        case rel => exact ⟨j + 1, _, ms, by omega, by omega, by go_num, hx, ha, ho, ⟨hv.out.1, fun x h => by have := hv.out.2 x h; omega⟩, .inr trivial, hb, hsz⟩
        case measure => simp [intOf]; omega
    · have hq : ¬ (j : Int) < 7 := by omega
      have hAB := HAB.out
      obtain ⟨b0, b1, b2, b3, f0, f1, f2, f3⟩ := hx.out.cells
      obtain ⟨a0, a1, a2, a3, g0, g1, g2, g3⟩ := ha.out.cells
      go_wp2
      have hA3 := HGA.out
      have hA4 := HSB.out
      refine view_ret rfl (ha.out.put4) rfl ⟨_, _, _, _, rfl, ms, OwnG.mono (ownM_put4 ho.out ha.out) (by omega), QM.errV_zero.2 ⟨HE.out, hv.out.1⟩, by omega, ?_⟩
      exact (((hb.out.setCell (p := ⟨A, 0, none⟩) (by show w.heap.size ≤ A; omega) _).setCell (p := ⟨A, 1, none⟩) (by show w.heap.size ≤ A; omega) _).setCell (p := ⟨A, 2, none⟩) (by show w.heap.size ≤ A; omega) _).setCell (p := ⟨A, 3, none⟩) (by show w.heap.size ≤ A; omega) _

end Go.Proofs.Ytbbgjckiooejhaa
