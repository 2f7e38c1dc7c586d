/-
  The call of the reference's Join: the join of two valid summaries. Conditions: both read and are valid.
-/
import Derived.Test.YtkaafbdhgekeeaaGreatMROf
namespace Go.Proofs.YtkaafbdhgekeeaaGreat
open Go.RowKit Go.Joins
open MM (Mem Ent Sm Tri)

/-! The lists that Join has built so far. -/
def accI (l m : List Int) (j : Nat) : List Int := (m.take j).foldl (fun l w => MM.insI w l) l
def accW (l m : List Ent) (j : Nat) : List Ent := (m.take j).foldl (fun l w => MM.insW w l) l
theorem accI_succ (l m : List Int) (j : Nat) (x : Int) (h : m[j]? = some x) : accI l m (j + 1) = MM.insI x (accI l m j) := by
  unfold accI; rw [List.take_add_one, h, List.foldl_append]; rfl
theorem accW_succ (l m : List Ent) (j : Nat) (x : Ent) (h : m[j]? = some x) : accW l m (j + 1) = MM.insW x (accW l m j) := by
  unfold accW; rw [List.take_add_one, h, List.foldl_append]; rfl
theorem accI_ok {l m : List Int} (h : MM.Srt MM.kI l) (hl : ∀ x ∈ l, 1 ≤ x ∧ x ≤ 12) (hm : ∀ x ∈ m, 1 ≤ x ∧ x ≤ 12) (j : Nat) : MM.Srt MM.kI (accI l m j) ∧ (∀ x ∈ accI l m j, 1 ≤ x ∧ x ≤ 12) ∧ (accI l m j).length ≤ 1000000 := by
  have hg : ∀ (m l : List Int), MM.Srt MM.kI l → (∀ x ∈ l, 1 ≤ x ∧ x ≤ 12) → (∀ x ∈ m, 1 ≤ x ∧ x ≤ 12) → MM.Srt MM.kI (m.foldl (fun l w => MM.insI w l) l) ∧ ∀ x ∈ m.foldl (fun l w => MM.insI w l) l, 1 ≤ x ∧ x ≤ 12 := by
    intro m
    induction m with
    | nil => intro l h hl _; exact ⟨h, hl⟩
    | cons y m ih =>
      intro l h hl hm
      refine ih _ (MM.ins_srt MM.kI MM.fstI MM.hkI y h) (fun x hx => ?_) (fun x hx => hm x (by simp [hx]))
      rcases (MM.mem_insI h).1 hx with h1 | rfl
      · exact hl x h1
      · exact hm x (by simp)
  have h1 := hg (m.take j) l h hl (fun x hx => hm x (List.mem_of_mem_take hx))
  have h2 := srt_len (a := 1) h1.1 (fun x hx => h1.2 x hx) (by decide)
  exact ⟨h1.1, h1.2, by unfold accI; omega⟩
theorem accW_ok {l m : List Ent} (h : MM.Srt MM.kW l) (hl : ∀ x ∈ l, MM.OkE x) (hm : ∀ x ∈ m, MM.OkE x) (j : Nat) : MM.Srt MM.kW (accW l m j) ∧ (accW l m j).length ≤ 1000000 := by
  have h0 : ∀ (w : Ent) (l : List Ent), MM.Srt MM.kW l → (∀ x ∈ l, MM.OkE x) → MM.OkE w → ∀ e ∈ MM.insW w l, MM.OkE e := by
    intro w l h hl hw e he
    have hs : MM.Srt MM.kW (MM.insW w l) := MM.ins_srt MM.kW MM.lat MM.hkW w h
    have h1 := MM.lk_mem MM.kW hs he
    rw [MM.insW, MM.lk_ins MM.kW MM.lat MM.hkW w h] at h1
    by_cases hz : MM.kW w = MM.kW e
    · rw [if_pos hz] at h1
      cases h2 : MM.lk MM.kW l (MM.kW e) with
      | none => rw [h2] at h1; cases h1; exact hw
      | some p =>
        rw [h2] at h1
        have h3 : some (MM.lat p w) = some e := h1
        rw [← Option.some.inj h3]
        unfold MM.lat
        split
        · exact hw
        · exact hl p (MM.lk_some MM.kW h2).1
    · rw [if_neg hz, MM.comb_none] at h1
      exact hl e (MM.lk_some MM.kW h1).1
  have hg : ∀ (m l : List Ent), MM.Srt MM.kW l → (∀ x ∈ l, MM.OkE x) → (∀ x ∈ m, MM.OkE x) → MM.Srt MM.kW (m.foldl (fun l w => MM.insW w l) l) ∧ ∀ x ∈ m.foldl (fun l w => MM.insW w l) l, MM.OkE x := by
    intro m
    induction m with
    | nil => intro l h hl _; exact ⟨h, hl⟩
    | cons y m ih =>
      intro l h hl hm
      exact ih _ (MM.ins_srt MM.kW MM.lat MM.hkW y h) (h0 y l h hl (hm y (by simp))) (fun x hx => hm x (by simp [hx]))
  have h1 := hg (m.take j) l h hl (fun x hx => hm x (List.mem_of_mem_take hx))
  have h2 := srt_len (a := 1) h1.1 (fun x hx => (h1.2 x hx).1) (by decide)
  exact ⟨h1.1, by unfold accW; omega⟩

set_option maxRecDepth 100000 in
set_option maxHeartbeats 16000000 in
theorem rJoin (va vb : Value) (s t : Sm) (w : World) (ha : RdS w va s) (hb : RdS w vb t) (hos : MM.OkS s) (hot : MM.OkS t) :
    Calls Tryz.prog 25 #[va, vb] w fun e w' => ∃ v, e = .returned v ∧ (∀ w'', Fr w.heap.size w' w'' → RdS w'' va s → RdS w'' v (MM.join s t)) ∧ Below w.heap.size w w' := by
  rw [← MM.joinR_eq hos hot]
  obtain ⟨x, y, z, rfl, hj, hr, hw⟩ := ha
  obtain ⟨x', y', z', rfl, hj', hr', hw'⟩ := hb
  have HI := Lib.hid (accI_ok hos.j hos.js hot.js)
  have HR := Lib.hid (accI_ok hos.r hos.rs hot.rs)
  have HWt := Lib.hid (accW_ok hos.w hos.ws hot.ws)
  have hLL := okS_len hot
  have hRS := hos
  clear hRS hos hot
  obtain ⟨J, R1, W, k, c, f, v, a, n⟩ := s
  obtain ⟨J', R1', W', k', c', f', v', a', n'⟩ := t
  dsimp only at *
  have hfin : ∀ u : Bool, MM.useR ⟨J, R1, W, k, c, f, v, a, n⟩ ⟨J', R1', W', k', c', f', v', a', n'⟩ = u → MM.joinR ⟨J, R1, W, k, c, f, v, a, n⟩ ⟨J', R1', W', k', c', f', v', a', n'⟩ = ⟨accI J J' J'.length, accI R1 R1' R1'.length, accW W W' W'.length, if u then k' else k, if u then c' else c, if u then f' else f, if u then v' else v, if u then a' else a, if u then n' else n⟩ := by
    intro u hu; rw [← hu]; unfold MM.joinR accI accW; simp [List.take_length]
  have hU : MM.useR ⟨J, R1, W, k, c, f, v, a, n⟩ ⟨J', R1', W', k', c', f', v', a', n'⟩ = (!decide (k' = 0 ∧ c' = 0 ∧ f' = 0) && (decide (k = 0 ∧ c = 0 ∧ f = 0) || MM.aft (v', a', n') (v, a, n))) := rfl
  rw [hU] at hfin
  clear hU
  generalize MM.joinR ⟨J, R1, W, k, c, f, v, a, n⟩ ⟨J', R1', W', k', c', f', v', a', n'⟩ = JN at hfin ⊢
  have HFIN := Lib.hid hfin
  obtain ⟨w4, hw4, hB, hsz, hA, hBb, hZ, hS⟩ := join_boxes w x y z x' y' z' k c f v a n k' c' f' v' a' n'
  have HJ0 := Lib.hid (show RdI w4 x (accI J J' 0) from hj.below hB)
  have HR0 := Lib.hid (show RdI w4 y (accI R1 R1' 0) from hr.below hB)
  have HW0 := Lib.hid (show RdW w4 z (accW W W' 0) from hw.below hB)
  have HX := Lib.hid (And.intro hj' (And.intro hr' hw'))
  have HXa := Lib.hid (And.intro hj (And.intro hr hw))
  have HLL := Lib.hid hLL
  have HB := Lib.hid hB
  have HSZ := Lib.hid hsz
  have HW4 := Lib.hid hw4
  have HA := Lib.hid hA
  have HBb := Lib.hid hBb
  have HZ := Lib.hid hZ
  have HS := Lib.hid hS
  obtain ⟨ax, lx, cx, hx⟩ : ∃ a l c, x = .slice a l c := by obtain ⟨a, c, h, _⟩ := hj.shape; exact ⟨a, _, c, h⟩
  obtain ⟨ay, ly, cy, hy⟩ : ∃ a l c, y = .slice a l c := by obtain ⟨a, c, h, _⟩ := hr.shape; exact ⟨a, _, c, h⟩
  obtain ⟨az, lz, cz, hz⟩ : ∃ a l c, z = .slice a l c := by obtain ⟨a, c, h, _⟩ := hw.shape; exact ⟨a, _, c, h⟩
  obtain ⟨ax', cx', rfl, _⟩ := hj'.shape
  obtain ⟨ay', cy', rfl, _⟩ := hr'.shape
  obtain ⟨az', cz', rfl, _⟩ := hw'.shape
  subst hx hy hz
  obtain ⟨RA, hRA⟩ : ∃ RA : World → Prop, RA = fun w'' => RdI w'' (.slice ax lx cx) J ∧ RdI w'' (.slice ay ly cy) R1 ∧ RdW w'' (.slice az lz cz) W := ⟨_, rfl⟩
  have HRA1 := Lib.hid (show ∀ w'', Below w.heap.size w w'' → RA w'' from fun w'' hb => by rw [hRA]; exact ⟨hj.below hb, hr.below hb, hw.below hb⟩)
  have HRA2 := Lib.hid (show ∀ w'', RA w'' → RdI w'' (.slice ax lx cx) J ∧ RdI w'' (.slice ay ly cy) R1 ∧ RdW w'' (.slice az lz cz) W from fun w'' hb => by rw [hRA] at hb; exact hb)
  have HRA3 := Lib.hid (show ∀ w'', RdS w'' (sv (.slice ax lx cx) (.slice ay ly cy) (.slice az lz cz) k c f v a n) ⟨J, R1, W, k, c, f, v, a, n⟩ → RA w'' from fun w'' hb => by
    rw [hRA]
    obtain ⟨x0, y0, z0, h0, h1, h2, h3⟩ := hb
    dsimp only at h0 h1 h2 h3
    unfold sv at h0
    injection h0 with h0
    injection h0 with h0
    injection h0 with e0 h0
    injection h0 with e1 h0
    injection h0 with e2 h0
    subst e0 e1 e2
    exact ⟨h1, h2, h3⟩)
  clear hRA hj hj' hr hr' hw hw' hfin hA hBb hZ hS hB hsz hw4 hLL
  go_enter Tryz.func25, Tryz.ntmps25
  go_wp2
  rw [HW4.out]
  go_loopw [6] (fun i wr => ∃ (j : Nat) (vJ vR vW : Value), j ≤ J'.length ∧ i = .int .i64 j ∧ Hid (Below w.heap.size w wr) ∧ Hid (w4.heap.size ≤ wr.heap.size) ∧ Hid (wr.heap[w.heap.size]? = some (.cells (s9 (.slice ax lx cx) (.slice ay ly cy) (.slice az lz cz) k c f v a n) 37 (0, 0))) ∧ Hid (wr.heap[w.heap.size + 1]? = some (.cells (s9 (.slice ax' J'.length cx') (.slice ay' R1'.length cy') (.slice az' W'.length cz') k' c' f' v' a' n') 37 (0, 0))) ∧ Hid (wr.heap[w.heap.size + 1 + 1]? = some (.cells (s9 (.slice none 0 0) (.slice none 0 0) (.slice none 0 0) 0 0 0 0 0 0) 37 (0, 0))) ∧ Hid (wr.heap[w.heap.size + 1 + 1 + 1]? = some (.cells (s9 vJ vR vW k c f v a n) 37 (0, 0))) ∧ Hid (∀ w'', Fr w4.heap.size wr w'' → RA w'' → RdI w'' vJ (accI J J' j)) ∧ Hid (∀ w'', Fr w4.heap.size wr w'' → RA w'' → RdI w'' vR (accI R1 R1' 0)) ∧ Hid (∀ w'', Fr w4.heap.size wr w'' → RA w'' → RdW w'' vW (accW W W' 0))) (fun i _ => J'.length - (intOf i).toNat)
  case atStart => exact ⟨0, _, _, _, Nat.zero_le _, rfl, HB, Lib.hid (Nat.le_refl _), HA, HBb, HZ, HS, Lib.hid (fun w'' _ hb => (HRA2.out _ hb).1), Lib.hid (fun w'' _ hb => (HRA2.out _ hb).2.1), Lib.hid (fun w'' _ hb => (HRA2.out _ hb).2.2)⟩
  case round =>
    clear HB HA HBb HZ HS HJ0 HR0 HW0 HW4
    obtain ⟨j, vJ, vR, vW, hj, rfl, HB, HG, HA, HBb, HZ, HS, HJ1, HR1, HW1⟩ := hrel
    obtain ⟨aJ, lJ, cJ, hvJ⟩ : ∃ a l c, vJ = .slice a l c := by obtain ⟨a, c, h, _⟩ := (HJ1.out _ (Fr.refl _ _) (HRA1.out _ HB.out)).shape; exact ⟨a, _, c, h⟩
    obtain ⟨aR, lR, cR, hvR⟩ : ∃ a l c, vR = .slice a l c := by obtain ⟨a, c, h, _⟩ := (HR1.out _ (Fr.refl _ _) (HRA1.out _ HB.out)).shape; exact ⟨a, _, c, h⟩
    obtain ⟨aW, lW, cW, hvW⟩ : ∃ a l c, vW = .slice a l c := by obtain ⟨a, c, h, _⟩ := (HW1.out _ (Fr.refl _ _) (HRA1.out _ HB.out)).shape; exact ⟨a, _, c, h⟩
    subst hvJ hvR hvW
    obtain ⟨⟨b0, b1, b2, b3, b4, b5, b6, b7, b8⟩, _⟩ := row9_at HBb.out
    by_cases hlt : j < J'.length
    · have hq : (j : Int) < (J'.length : Int) := by omega
      have hjb : (j : Int) ≤ 1000000 := by have := HLL.out; omega
      obtain ⟨q1, hx⟩ : ∃ m : Int, J'[j]? = some m := ⟨_, List.getElem?_eq_getElem hlt⟩
      have HSC := Lib.hid (accI_succ J J' j _ hx)
      have HAC := Lib.hid (HI.out j)
      obtain ⟨o1, oo, hi, hbb, d0⟩ := atI (HX.out.1.below HB.out) j q1 hx
      have HGE := Lib.hid hx
      have HHI := Lib.hid hi
      clear hx hi hbb d0
      go_wp2
      refine wp_region_held_drew (S := fun w' => w'.heap[w.heap.size + 1]? = some (.cells (s9 (.slice ax' J'.length cx') (.slice ay' R1'.length cy') (.slice az' W'.length cz') k' c' f' v' a' n') 37 (0, 0)) ∧ Below w.heap.size w w') (by kernel_rfl) ⟨HBb.out, HB.out.drew⟩ (fun _ => ?_)
      have hS : wr.drew.heap[w.heap.size + 1]? = some (.cells (s9 (.slice ax' J'.length cx') (.slice ay' R1'.length cy') (.slice az' W'.length cz') k' c' f' v' a' n') 37 (0, 0)) ∧ Below w.heap.size w wr.drew := ⟨HBb.out, HB.out.drew⟩
      replace HG := Lib.hid (show w4.heap.size ≤ wr.drew.heap.size from HG.out)
      replace HA := Lib.hid (show wr.drew.heap[w.heap.size]? = some (.cells (s9 (.slice ax lx cx) (.slice ay ly cy) (.slice az lz cz) k c f v a n) 37 (0, 0)) from HA.out)
      replace HZ := Lib.hid (show wr.drew.heap[w.heap.size + 1 + 1]? = some (.cells (s9 (.slice none 0 0) (.slice none 0 0) (.slice none 0 0) 0 0 0 0 0 0) 37 (0, 0)) from HZ.out)
      replace HS := Lib.hid (show wr.drew.heap[w.heap.size + 1 + 1 + 1]? = some (.cells (s9 (.slice aJ lJ cJ) (.slice aR lR cR) (.slice aW lW cW) k c f v a n) 37 (0, 0)) from HS.out)
      replace HJ1 := Lib.hid (show ∀ w'', Fr w4.heap.size wr.drew w'' → RA w'' → RdI w'' (.slice aJ lJ cJ) (accI J J' j) from fun w'' hf hb => HJ1.out w'' ((Fr.of (B := w4.heap.size) (Below.refl _ wr).drew).trans hf) hb)
      replace HR1 := Lib.hid (show ∀ w'', Fr w4.heap.size wr.drew w'' → RA w'' → RdI w'' (.slice aR lR cR) (accI R1 R1' 0) from fun w'' hf hb => HR1.out w'' ((Fr.of (B := w4.heap.size) (Below.refl _ wr).drew).trans hf) hb)
      replace HW1 := Lib.hid (show ∀ w'', Fr w4.heap.size wr.drew w'' → RA w'' → RdW w'' (.slice aW lW cW) (accW W W' 0) from fun w'' hf hb => HW1.out w'' ((Fr.of (B := w4.heap.size) (Below.refl _ wr).drew).trans hf) hb)
      clear HB HBb b0 b1 b2 b3 b4 b5 b6 b7 b8
      generalize wr.drew = wa at hS HG HA HZ HS HJ1 HR1 HW1 ⊢
      refine takeH (i := 0) (v := ?_) rfl (by kernel_rfl) (by kernel_rfl) (by kernel_rfl) (fun _ _ _ h => h) (Or.inl ⟨by rfl, ?_⟩) (by assumption) ?_
      rotate_left
      · (intro w hSw; (try dsimp only at hSw); go_simp; first | done | with_reducible rfl)
      (try simp only [Act.put, List.setIfInBounds_toArray, List.set_cons_zero, List.set_cons_succ])
      refine takeH (i := 2) (v := ?_) rfl (by kernel_rfl) (by kernel_rfl) (by kernel_rfl) (fun _ _ _ h => h) (Or.inl ⟨by rfl, ?_⟩) (by assumption) ?_
      rotate_left
      · (intro w hSw; (try dsimp only at hSw); go_simp; first | done | with_reducible rfl)
      (try simp only [Act.put, List.setIfInBounds_toArray, List.set_cons_zero, List.set_cons_succ])
      refine takeH (i := 3) (v := ?_) rfl (by kernel_rfl) (by kernel_rfl) (by kernel_rfl) (fun _ _ _ h => h) (Or.inl ⟨by rfl, ?_⟩) (by assumption) ?_
      rotate_left
      · (intro w hSw; (try dsimp only at hSw); obtain ⟨⟨b0, b1, b2, b3, b4, b5, b6, b7, b8⟩, _⟩ := row9_at hSw.1; go_simp; first | done | with_reducible rfl)
      (try simp only [Act.put, List.setIfInBounds_toArray, List.set_cons_zero, List.set_cons_succ])
      refine takeH (i := 4) (v := ?_) rfl (by kernel_rfl) (by kernel_rfl) (by kernel_rfl) (fun _ _ _ h => h) (Or.inl ⟨by rfl, ?_⟩) (by assumption) ?_
      rotate_left
      · (intro w hSw; (try dsimp only at hSw); go_simp; first | done | with_reducible rfl)
      (try simp only [Act.put, List.setIfInBounds_toArray, List.set_cons_zero, List.set_cons_succ])
      refine takeH (i := 5) (v := ?_) rfl (by kernel_rfl) (by kernel_rfl) (by kernel_rfl) (fun _ _ _ h => h) (Or.inl ⟨by rfl, ?_⟩) (by assumption) ?_
      rotate_left
      · (intro w hSw; (try dsimp only at hSw); have hi := HHI.out w; go_simp; first | done | with_reducible rfl)
      (try simp only [Act.put, List.setIfInBounds_toArray, List.set_cons_zero, List.set_cons_succ])
      refine takeH (i := 6) (v := ?_) rfl (by kernel_rfl) (by kernel_rfl) (by kernel_rfl) (fun _ _ _ h => h) (Or.inl ⟨by rfl, ?_⟩) (by assumption) ?_
      rotate_left
      · (intro w hSw; (try dsimp only at hSw); obtain ⟨o1', oo', hi', _, d0⟩ := atI (HX.out.1.below hSw.2) j q1 HGE.out; have he := (HHI.out w).symm.trans (hi' w); injection he with he; injection he with he; injection he with he; injection he with he1 he2; subst he1; subst he2; go_simp; first | done | with_reducible rfl)
      (try simp only [Act.put, List.setIfInBounds_toArray, List.set_cons_zero, List.set_cons_succ])
      refine wpAnyH_ready (rs := [1]) (by kernel_rfl) (by simp) ?_
      refine stepH rfl (fun K hK => ?_) AllReadyH.nil
      obtain ⟨⟨s0, s1, s2, s3, s4, s5, s6, s7, s8⟩, _⟩ := row9_at HS.out
      go_simp
      refine hK.out _ _ (hS) (fun _ => ?_)
      clear hK K
      (try simp only [Act.put, List.setIfInBounds_toArray, List.set_cons_zero, List.set_cons_succ])
      clear s0 s1 s2 s3 s4 s5 s6 s7 s8
      refine wpAnyH_ready (rs := [7]) (by kernel_rfl) (by simp) ?_
      refine stepH rfl (fun K hK => ?_) AllReadyH.nil
      go_simp
      refine (oInsert _ _ q1 wa (HJ1.out wa (Fr.refl _ _) (HRA1.out _ hS.2)) HAC.out.1 HAC.out.2.2).mono ?_
      rintro e wq ⟨vq, rfl, hrq, hbq⟩
      obtain ⟨aq, lq, cq, hvq⟩ := hrq.shape
      subst hvq
      replace hS : wq.heap[w.heap.size + 1]? = some (.cells (s9 (.slice ax' J'.length cx') (.slice ay' R1'.length cy') (.slice az' W'.length cz') k' c' f' v' a' n') 37 (0, 0)) ∧ Below w.heap.size w wq := ⟨below_block hS.1 hbq, bnext hS.2 hbq⟩
      have hs1 := below_block HS.out hbq
      replace HA := Lib.hid (below_block HA.out hbq)
      replace HZ := Lib.hid (below_block HZ.out hbq)
      replace HJ1 := Lib.hid (hrq.mono HG.out)
      replace HR1 := Lib.hid (fun w'' (hf : Fr w4.heap.size wq w'') hb => HR1.out w'' ((Fr.of hbq).trans hf) hb)
      replace HW1 := Lib.hid (fun w'' (hf : Fr w4.heap.size wq w'') hb => HW1.out w'' ((Fr.of hbq).trans hf) hb)
      rw [← HSC.out] at HJ1
      replace HG := Lib.hid (Nat.le_trans HG.out hbq.size)
      clear hrq hbq HS
      go_wp2_with fail
      refine hK.out _ _ (hS) (fun _ => ?_)
      clear hK K
      (try simp only [Act.put, List.setIfInBounds_toArray, List.set_cons_zero, List.set_cons_succ])
      refine takeH (i := 8) (v := ?_) rfl (by kernel_rfl) (by kernel_rfl) (by kernel_rfl) (fun _ _ _ h => h) (Or.inl ⟨by rfl, ?_⟩) (by assumption) ?_
      rotate_left
      · (intro w hSw; (try dsimp only at hSw); go_simp; first | done | with_reducible rfl)
      (try simp only [Act.put, List.setIfInBounds_toArray, List.set_cons_zero, List.set_cons_succ])
      obtain ⟨⟨s0, s1, s2, s3, s4, s5, s6, s7, s8⟩, f0, f1, f2, f3, f4, f5, f6, f7, f8⟩ := row9_at hs1
      have hs2 : (wq.setCell ⟨w.heap.size + 1 + 1 + 1, 0, none⟩ (.slice aq lq cq)).heap[w.heap.size + 1 + 1 + 1]? = some (.cells (s9 (.slice aq lq cq) (.slice aR lR cR) (.slice aW lW cW) k c f v a n) 37 (0, 0)) := heap_setCell_same wq _ 0 _ _ _ hs1
      have ho2 : Only (w.heap.size + 1 + 1 + 1) wq (wq.setCell ⟨w.heap.size + 1 + 1 + 1, 0, none⟩ (.slice aq lq cq)) := Only.set 0 _
      replace hS : (wq.setCell ⟨w.heap.size + 1 + 1 + 1, 0, none⟩ (.slice aq lq cq)).heap[w.heap.size + 1]? = some (.cells (s9 (.slice ax' J'.length cx') (.slice ay' R1'.length cy') (.slice az' W'.length cz') k' c' f' v' a' n') 37 (0, 0)) ∧ Below w.heap.size w (wq.setCell ⟨w.heap.size + 1 + 1 + 1, 0, none⟩ (.slice aq lq cq)) := ⟨ho2.at hS.1 (by omega), hS.2.trans (ho2.below (by omega) hS.2.size)⟩
      replace HA := Lib.hid (ho2.at HA.out (by omega))
      replace HZ := Lib.hid (ho2.at HZ.out (by omega))
      have HS := Lib.hid hs2
      have hfo : Fr w4.heap.size wq (wq.setCell ⟨w.heap.size + 1 + 1 + 1, 0, none⟩ (.slice aq lq cq)) := Fr.only ho2 (by have := HSZ.out; omega)
      replace HJ1 := Lib.hid (fun w'' (hf : Fr w4.heap.size (wq.setCell ⟨w.heap.size + 1 + 1 + 1, 0, none⟩ (.slice aq lq cq)) w'') (_ : RA w'') => HJ1.out w'' (hfo.trans hf))
      replace HR1 := Lib.hid (fun w'' (hf : Fr w4.heap.size (wq.setCell ⟨w.heap.size + 1 + 1 + 1, 0, none⟩ (.slice aq lq cq)) w'') hb => HR1.out w'' (hfo.trans hf) hb)
      replace HW1 := Lib.hid (fun w'' (hf : Fr w4.heap.size (wq.setCell ⟨w.heap.size + 1 + 1 + 1, 0, none⟩ (.slice aq lq cq)) w'') hb => HW1.out w'' (hfo.trans hf) hb)
      replace HG := Lib.hid (Nat.le_trans HG.out ho2.size)
      clear hs2 ho2 hfo
      refine wpAnyH_ready (rs := [9]) (by kernel_rfl) (by simp) ?_
      refine stepH rfl (fun K hK => ?_) AllReadyH.nil
      go_simp
      refine hK.out _ _ (hS) (fun _ => ?_)
      clear hK K
      (try simp only [Act.put, List.setIfInBounds_toArray, List.set_cons_zero, List.set_cons_succ])
      refine wpAnyH_done (by kernel_rfl) ?_ _
      generalize (wq.setCell ⟨w.heap.size + 1 + 1 + 1, 0, none⟩ (.slice aq lq cq)) = wz at hS HS HA HZ HJ1 HR1 HW1 HG ⊢
      have HB := Lib.hid hS.2
      have HBb := Lib.hid hS.1
      clear s0 s1 s2 s3 s4 s5 s6 s7 s8 f0 f1 f2 f3 f4 f5 f6 f7 f8 hs1 hS
      go_wp2
      go_roundw
      case rel => exact ⟨j + 1, _, _, _, by omega, by go_num, HB, HG, HA, HBb, HZ, HS, HJ1, HR1, HW1⟩
      case measure => simp [intOf]; omega
    · have hq : ¬ ((j : Int) < (J'.length : Int)) := by omega
      obtain rfl : j = J'.length := by omega
      obtain ⟨wo, rfl⟩ : ∃ wo, wo = wr := ⟨wr, rfl⟩
      clear b0 b1 b2 b3 b4 b5 b6 b7 b8 hj hlt
      obtain ⟨⟨b0, b1, b2, b3, b4, b5, b6, b7, b8⟩, _⟩ := row9_at HBb.out
      go_wp2
      clear b0 b1 b2 b3 b4 b5 b6 b7 b8 hq
      go_loopw [7] (fun i wr => ∃ (j : Nat) (vJ vR vW : Value), j ≤ R1'.length ∧ i = .int .i64 j ∧ Hid (Below w.heap.size w wr) ∧ Hid (w4.heap.size ≤ wr.heap.size) ∧ Hid (wr.heap[w.heap.size]? = some (.cells (s9 (.slice ax lx cx) (.slice ay ly cy) (.slice az lz cz) k c f v a n) 37 (0, 0))) ∧ Hid (wr.heap[w.heap.size + 1]? = some (.cells (s9 (.slice ax' J'.length cx') (.slice ay' R1'.length cy') (.slice az' W'.length cz') k' c' f' v' a' n') 37 (0, 0))) ∧ Hid (wr.heap[w.heap.size + 1 + 1]? = some (.cells (s9 (.slice none 0 0) (.slice none 0 0) (.slice none 0 0) 0 0 0 0 0 0) 37 (0, 0))) ∧ Hid (wr.heap[w.heap.size + 1 + 1 + 1]? = some (.cells (s9 vJ vR vW k c f v a n) 37 (0, 0))) ∧ Hid (∀ w'', Fr w4.heap.size wr w'' → RA w'' → RdI w'' vJ (accI J J' J'.length)) ∧ Hid (∀ w'', Fr w4.heap.size wr w'' → RA w'' → RdI w'' vR (accI R1 R1' j)) ∧ Hid (∀ w'', Fr w4.heap.size wr w'' → RA w'' → RdW w'' vW (accW W W' 0))) (fun i _ => R1'.length - (intOf i).toNat)
      case atStart => exact ⟨0, _, _, _, Nat.zero_le _, rfl, HB, HG, HA, HBb, HZ, HS, HJ1, HR1, HW1⟩
      case round =>
        clear HB HA HBb HZ HS HG HJ1 HR1 HW1
        obtain ⟨j, vJ, vR, vW, hj, rfl, HB, HG, HA, HBb, HZ, HS, HJ1, HR1, HW1⟩ := hrel
        obtain ⟨aJ, lJ, cJ, hvJ⟩ : ∃ a l c, vJ = .slice a l c := by obtain ⟨a, c, h, _⟩ := (HJ1.out _ (Fr.refl _ _) (HRA1.out _ HB.out)).shape; exact ⟨a, _, c, h⟩
        obtain ⟨aR, lR, cR, hvR⟩ : ∃ a l c, vR = .slice a l c := by obtain ⟨a, c, h, _⟩ := (HR1.out _ (Fr.refl _ _) (HRA1.out _ HB.out)).shape; exact ⟨a, _, c, h⟩
        obtain ⟨aW, lW, cW, hvW⟩ : ∃ a l c, vW = .slice a l c := by obtain ⟨a, c, h, _⟩ := (HW1.out _ (Fr.refl _ _) (HRA1.out _ HB.out)).shape; exact ⟨a, _, c, h⟩
        subst hvJ hvR hvW
        obtain ⟨⟨b0, b1, b2, b3, b4, b5, b6, b7, b8⟩, _⟩ := row9_at HBb.out
        by_cases hlt : j < R1'.length
        · have hq : (j : Int) < (R1'.length : Int) := by omega
          have hjb : (j : Int) ≤ 1000000 := by have := HLL.out; omega
          obtain ⟨q1, hx⟩ : ∃ m : Int, R1'[j]? = some m := ⟨_, List.getElem?_eq_getElem hlt⟩
          have HSC := Lib.hid (accI_succ R1 R1' j _ hx)
          have HAC := Lib.hid (HR.out j)
          obtain ⟨o1, oo, hi, hbb, d0⟩ := atI (HX.out.2.1.below HB.out) j q1 hx
          have HGE := Lib.hid hx
          have HHI := Lib.hid hi
          clear hx hi hbb d0
          go_wp2
          refine wp_region_held_drew (S := fun w' => w'.heap[w.heap.size + 1]? = some (.cells (s9 (.slice ax' J'.length cx') (.slice ay' R1'.length cy') (.slice az' W'.length cz') k' c' f' v' a' n') 37 (0, 0)) ∧ Below w.heap.size w w') (by kernel_rfl) ⟨HBb.out, HB.out.drew⟩ (fun _ => ?_)
          have hS : wr.drew.heap[w.heap.size + 1]? = some (.cells (s9 (.slice ax' J'.length cx') (.slice ay' R1'.length cy') (.slice az' W'.length cz') k' c' f' v' a' n') 37 (0, 0)) ∧ Below w.heap.size w wr.drew := ⟨HBb.out, HB.out.drew⟩
          replace HG := Lib.hid (show w4.heap.size ≤ wr.drew.heap.size from HG.out)
          replace HA := Lib.hid (show wr.drew.heap[w.heap.size]? = some (.cells (s9 (.slice ax lx cx) (.slice ay ly cy) (.slice az lz cz) k c f v a n) 37 (0, 0)) from HA.out)
          replace HZ := Lib.hid (show wr.drew.heap[w.heap.size + 1 + 1]? = some (.cells (s9 (.slice none 0 0) (.slice none 0 0) (.slice none 0 0) 0 0 0 0 0 0) 37 (0, 0)) from HZ.out)
          replace HS := Lib.hid (show wr.drew.heap[w.heap.size + 1 + 1 + 1]? = some (.cells (s9 (.slice aJ lJ cJ) (.slice aR lR cR) (.slice aW lW cW) k c f v a n) 37 (0, 0)) from HS.out)
          replace HJ1 := Lib.hid (show ∀ w'', Fr w4.heap.size wr.drew w'' → RA w'' → RdI w'' (.slice aJ lJ cJ) (accI J J' J'.length) from fun w'' hf hb => HJ1.out w'' ((Fr.of (B := w4.heap.size) (Below.refl _ wr).drew).trans hf) hb)
          replace HR1 := Lib.hid (show ∀ w'', Fr w4.heap.size wr.drew w'' → RA w'' → RdI w'' (.slice aR lR cR) (accI R1 R1' j) from fun w'' hf hb => HR1.out w'' ((Fr.of (B := w4.heap.size) (Below.refl _ wr).drew).trans hf) hb)
          replace HW1 := Lib.hid (show ∀ w'', Fr w4.heap.size wr.drew w'' → RA w'' → RdW w'' (.slice aW lW cW) (accW W W' 0) from fun w'' hf hb => HW1.out w'' ((Fr.of (B := w4.heap.size) (Below.refl _ wr).drew).trans hf) hb)
          clear HB HBb b0 b1 b2 b3 b4 b5 b6 b7 b8
          generalize wr.drew = wa at hS HG HA HZ HS HJ1 HR1 HW1 ⊢
          refine takeH (i := 0) (v := ?_) rfl (by kernel_rfl) (by kernel_rfl) (by kernel_rfl) (fun _ _ _ h => h) (Or.inl ⟨by rfl, ?_⟩) (by assumption) ?_
          rotate_left
          · (intro w hSw; (try dsimp only at hSw); go_simp; first | done | with_reducible rfl)
          (try simp only [Act.put, List.setIfInBounds_toArray, List.set_cons_zero, List.set_cons_succ])
          refine takeH (i := 2) (v := ?_) rfl (by kernel_rfl) (by kernel_rfl) (by kernel_rfl) (fun _ _ _ h => h) (Or.inl ⟨by rfl, ?_⟩) (by assumption) ?_
          rotate_left
          · (intro w hSw; (try dsimp only at hSw); go_simp; first | done | with_reducible rfl)
          (try simp only [Act.put, List.setIfInBounds_toArray, List.set_cons_zero, List.set_cons_succ])
          refine takeH (i := 3) (v := ?_) rfl (by kernel_rfl) (by kernel_rfl) (by kernel_rfl) (fun _ _ _ h => h) (Or.inl ⟨by rfl, ?_⟩) (by assumption) ?_
          rotate_left
          · (intro w hSw; (try dsimp only at hSw); obtain ⟨⟨b0, b1, b2, b3, b4, b5, b6, b7, b8⟩, _⟩ := row9_at hSw.1; go_simp; first | done | with_reducible rfl)
          (try simp only [Act.put, List.setIfInBounds_toArray, List.set_cons_zero, List.set_cons_succ])
          refine takeH (i := 4) (v := ?_) rfl (by kernel_rfl) (by kernel_rfl) (by kernel_rfl) (fun _ _ _ h => h) (Or.inl ⟨by rfl, ?_⟩) (by assumption) ?_
          rotate_left
          · (intro w hSw; (try dsimp only at hSw); go_simp; first | done | with_reducible rfl)
          (try simp only [Act.put, List.setIfInBounds_toArray, List.set_cons_zero, List.set_cons_succ])
          refine takeH (i := 5) (v := ?_) rfl (by kernel_rfl) (by kernel_rfl) (by kernel_rfl) (fun _ _ _ h => h) (Or.inl ⟨by rfl, ?_⟩) (by assumption) ?_
          rotate_left
          · (intro w hSw; (try dsimp only at hSw); have hi := HHI.out w; go_simp; first | done | with_reducible rfl)
          (try simp only [Act.put, List.setIfInBounds_toArray, List.set_cons_zero, List.set_cons_succ])
          refine takeH (i := 6) (v := ?_) rfl (by kernel_rfl) (by kernel_rfl) (by kernel_rfl) (fun _ _ _ h => h) (Or.inl ⟨by rfl, ?_⟩) (by assumption) ?_
          rotate_left
          · (intro w hSw; (try dsimp only at hSw); obtain ⟨o1', oo', hi', _, d0⟩ := atI (HX.out.2.1.below hSw.2) j q1 HGE.out; have he := (HHI.out w).symm.trans (hi' w); injection he with he; injection he with he; injection he with he; injection he with he1 he2; subst he1; subst he2; go_simp; first | done | with_reducible rfl)
          (try simp only [Act.put, List.setIfInBounds_toArray, List.set_cons_zero, List.set_cons_succ])
          refine wpAnyH_ready (rs := [1]) (by kernel_rfl) (by simp) ?_
          refine stepH rfl (fun K hK => ?_) AllReadyH.nil
          obtain ⟨⟨s0, s1, s2, s3, s4, s5, s6, s7, s8⟩, _⟩ := row9_at HS.out
          go_simp
          refine hK.out _ _ (hS) (fun _ => ?_)
          clear hK K
          (try simp only [Act.put, List.setIfInBounds_toArray, List.set_cons_zero, List.set_cons_succ])
          clear s0 s1 s2 s3 s4 s5 s6 s7 s8
          refine wpAnyH_ready (rs := [7]) (by kernel_rfl) (by simp) ?_
          refine stepH rfl (fun K hK => ?_) AllReadyH.nil
          go_simp
          refine (oInsert _ _ q1 wa (HR1.out wa (Fr.refl _ _) (HRA1.out _ hS.2)) HAC.out.1 HAC.out.2.2).mono ?_
          rintro e wq ⟨vq, rfl, hrq, hbq⟩
          obtain ⟨aq, lq, cq, hvq⟩ := hrq.shape
          subst hvq
          replace hS : wq.heap[w.heap.size + 1]? = some (.cells (s9 (.slice ax' J'.length cx') (.slice ay' R1'.length cy') (.slice az' W'.length cz') k' c' f' v' a' n') 37 (0, 0)) ∧ Below w.heap.size w wq := ⟨below_block hS.1 hbq, bnext hS.2 hbq⟩
          have hs1 := below_block HS.out hbq
          replace HA := Lib.hid (below_block HA.out hbq)
          replace HZ := Lib.hid (below_block HZ.out hbq)
          replace HJ1 := Lib.hid (fun w'' (hf : Fr w4.heap.size wq w'') hb => HJ1.out w'' ((Fr.of hbq).trans hf) hb)
          replace HR1 := Lib.hid (hrq.mono HG.out)
          replace HW1 := Lib.hid (fun w'' (hf : Fr w4.heap.size wq w'') hb => HW1.out w'' ((Fr.of hbq).trans hf) hb)
          rw [← HSC.out] at HR1
          replace HG := Lib.hid (Nat.le_trans HG.out hbq.size)
          clear hrq hbq HS
          go_wp2_with fail
          refine hK.out _ _ (hS) (fun _ => ?_)
          clear hK K
          (try simp only [Act.put, List.setIfInBounds_toArray, List.set_cons_zero, List.set_cons_succ])
          refine takeH (i := 8) (v := ?_) rfl (by kernel_rfl) (by kernel_rfl) (by kernel_rfl) (fun _ _ _ h => h) (Or.inl ⟨by rfl, ?_⟩) (by assumption) ?_
          rotate_left
          · (intro w hSw; (try dsimp only at hSw); go_simp; first | done | with_reducible rfl)
          (try simp only [Act.put, List.setIfInBounds_toArray, List.set_cons_zero, List.set_cons_succ])
          obtain ⟨⟨s0, s1, s2, s3, s4, s5, s6, s7, s8⟩, f0, f1, f2, f3, f4, f5, f6, f7, f8⟩ := row9_at hs1
          have hs2 : (wq.setCell ⟨w.heap.size + 1 + 1 + 1, 1, none⟩ (.slice aq lq cq)).heap[w.heap.size + 1 + 1 + 1]? = some (.cells (s9 (.slice aJ lJ cJ) (.slice aq lq cq) (.slice aW lW cW) k c f v a n) 37 (0, 0)) := heap_setCell_same wq _ 1 _ _ _ hs1
          have ho2 : Only (w.heap.size + 1 + 1 + 1) wq (wq.setCell ⟨w.heap.size + 1 + 1 + 1, 1, none⟩ (.slice aq lq cq)) := Only.set 1 _
          replace hS : (wq.setCell ⟨w.heap.size + 1 + 1 + 1, 1, none⟩ (.slice aq lq cq)).heap[w.heap.size + 1]? = some (.cells (s9 (.slice ax' J'.length cx') (.slice ay' R1'.length cy') (.slice az' W'.length cz') k' c' f' v' a' n') 37 (0, 0)) ∧ Below w.heap.size w (wq.setCell ⟨w.heap.size + 1 + 1 + 1, 1, none⟩ (.slice aq lq cq)) := ⟨ho2.at hS.1 (by omega), hS.2.trans (ho2.below (by omega) hS.2.size)⟩
          replace HA := Lib.hid (ho2.at HA.out (by omega))
          replace HZ := Lib.hid (ho2.at HZ.out (by omega))
          have HS := Lib.hid hs2
          have hfo : Fr w4.heap.size wq (wq.setCell ⟨w.heap.size + 1 + 1 + 1, 1, none⟩ (.slice aq lq cq)) := Fr.only ho2 (by have := HSZ.out; omega)
          replace HJ1 := Lib.hid (fun w'' (hf : Fr w4.heap.size (wq.setCell ⟨w.heap.size + 1 + 1 + 1, 1, none⟩ (.slice aq lq cq)) w'') hb => HJ1.out w'' (hfo.trans hf) hb)
          replace HR1 := Lib.hid (fun w'' (hf : Fr w4.heap.size (wq.setCell ⟨w.heap.size + 1 + 1 + 1, 1, none⟩ (.slice aq lq cq)) w'') (_ : RA w'') => HR1.out w'' (hfo.trans hf))
          replace HW1 := Lib.hid (fun w'' (hf : Fr w4.heap.size (wq.setCell ⟨w.heap.size + 1 + 1 + 1, 1, none⟩ (.slice aq lq cq)) w'') hb => HW1.out w'' (hfo.trans hf) hb)
          replace HG := Lib.hid (Nat.le_trans HG.out ho2.size)
          clear hs2 ho2 hfo
          refine wpAnyH_ready (rs := [9]) (by kernel_rfl) (by simp) ?_
          refine stepH rfl (fun K hK => ?_) AllReadyH.nil
          go_simp
          refine hK.out _ _ (hS) (fun _ => ?_)
          clear hK K
          (try simp only [Act.put, List.setIfInBounds_toArray, List.set_cons_zero, List.set_cons_succ])
          refine wpAnyH_done (by kernel_rfl) ?_ _
          generalize (wq.setCell ⟨w.heap.size + 1 + 1 + 1, 1, none⟩ (.slice aq lq cq)) = wz at hS HS HA HZ HJ1 HR1 HW1 HG ⊢
          have HB := Lib.hid hS.2
          have HBb := Lib.hid hS.1
          clear s0 s1 s2 s3 s4 s5 s6 s7 s8 f0 f1 f2 f3 f4 f5 f6 f7 f8 hs1 hS
          go_wp2
          go_roundw
          case rel => exact ⟨j + 1, _, _, _, by omega, by go_num, HB, HG, HA, HBb, HZ, HS, HJ1, HR1, HW1⟩
          case measure => simp [intOf]; omega
        · have hq : ¬ ((j : Int) < (R1'.length : Int)) := by omega
          obtain rfl : j = R1'.length := by omega
          obtain ⟨wo, rfl⟩ : ∃ wo, wo = wr := ⟨wr, rfl⟩
          clear b0 b1 b2 b3 b4 b5 b6 b7 b8 hj hlt
          obtain ⟨⟨b0, b1, b2, b3, b4, b5, b6, b7, b8⟩, _⟩ := row9_at HBb.out
          go_wp2
          clear b0 b1 b2 b3 b4 b5 b6 b7 b8 hq
          go_loopw [8] (fun i wr => ∃ (j : Nat) (vJ vR vW : Value), j ≤ W'.length ∧ i = .int .i64 j ∧ Hid (Below w.heap.size w wr) ∧ Hid (w4.heap.size ≤ wr.heap.size) ∧ Hid (wr.heap[w.heap.size]? = some (.cells (s9 (.slice ax lx cx) (.slice ay ly cy) (.slice az lz cz) k c f v a n) 37 (0, 0))) ∧ Hid (wr.heap[w.heap.size + 1]? = some (.cells (s9 (.slice ax' J'.length cx') (.slice ay' R1'.length cy') (.slice az' W'.length cz') k' c' f' v' a' n') 37 (0, 0))) ∧ Hid (wr.heap[w.heap.size + 1 + 1]? = some (.cells (s9 (.slice none 0 0) (.slice none 0 0) (.slice none 0 0) 0 0 0 0 0 0) 37 (0, 0))) ∧ Hid (wr.heap[w.heap.size + 1 + 1 + 1]? = some (.cells (s9 vJ vR vW k c f v a n) 37 (0, 0))) ∧ Hid (∀ w'', Fr w4.heap.size wr w'' → RA w'' → RdI w'' vJ (accI J J' J'.length)) ∧ Hid (∀ w'', Fr w4.heap.size wr w'' → RA w'' → RdI w'' vR (accI R1 R1' R1'.length)) ∧ Hid (∀ w'', Fr w4.heap.size wr w'' → RA w'' → RdW w'' vW (accW W W' j))) (fun i _ => W'.length - (intOf i).toNat)
          case atStart => exact ⟨0, _, _, _, Nat.zero_le _, rfl, HB, HG, HA, HBb, HZ, HS, HJ1, HR1, HW1⟩
          case round =>
            clear HB HA HBb HZ HS HG HJ1 HR1 HW1
            obtain ⟨j, vJ, vR, vW, hj, rfl, HB, HG, HA, HBb, HZ, HS, HJ1, HR1, HW1⟩ := hrel
            obtain ⟨aJ, lJ, cJ, hvJ⟩ : ∃ a l c, vJ = .slice a l c := by obtain ⟨a, c, h, _⟩ := (HJ1.out _ (Fr.refl _ _) (HRA1.out _ HB.out)).shape; exact ⟨a, _, c, h⟩
            obtain ⟨aR, lR, cR, hvR⟩ : ∃ a l c, vR = .slice a l c := by obtain ⟨a, c, h, _⟩ := (HR1.out _ (Fr.refl _ _) (HRA1.out _ HB.out)).shape; exact ⟨a, _, c, h⟩
            obtain ⟨aW, lW, cW, hvW⟩ : ∃ a l c, vW = .slice a l c := by obtain ⟨a, c, h, _⟩ := (HW1.out _ (Fr.refl _ _) (HRA1.out _ HB.out)).shape; exact ⟨a, _, c, h⟩
            subst hvJ hvR hvW
            obtain ⟨⟨b0, b1, b2, b3, b4, b5, b6, b7, b8⟩, _⟩ := row9_at HBb.out
            by_cases hlt : j < W'.length
            · have hq : (j : Int) < (W'.length : Int) := by omega
              have hjb : (j : Int) ≤ 1000000 := by have := HLL.out; omega
              obtain ⟨⟨q1, q2, q3, q4, q5⟩, hx⟩ : ∃ m : Ent, W'[j]? = some m := ⟨_, List.getElem?_eq_getElem hlt⟩
              have HSC := Lib.hid (accW_succ W W' j _ hx)
              have HAC := Lib.hid (HWt.out j)
              obtain ⟨o1, oo, hi, hbb, d0, d1, d2, d3, d4⟩ := atW (HX.out.2.2.below HB.out) j q1 q2 q3 q4 q5 hx
              have HD := Lib.hid (show Below w.heap.size w wr ∧ wr.cell? ⟨o1, oo, none⟩ = some (.int .i64 q1) ∧ wr.cell? ⟨o1, oo + 1, none⟩ = some (.int .i64 q2) ∧ wr.cell? ⟨o1, oo + 2, none⟩ = some (.int .i64 q3) ∧ wr.cell? ⟨o1, oo + 3, none⟩ = some (.int .i64 q4) ∧ wr.cell? ⟨o1, oo + 4, none⟩ = some (.int .i64 q5) from ⟨HB.out, d0, d1, d2, d3, d4⟩)
              have HGE := Lib.hid hx
              have HHI := Lib.hid hi
              clear hx hi hbb d0 d1 d2 d3 d4 HD
              go_wp2
              refine wp_region_held_drew (S := fun w' => w'.heap[w.heap.size + 1]? = some (.cells (s9 (.slice ax' J'.length cx') (.slice ay' R1'.length cy') (.slice az' W'.length cz') k' c' f' v' a' n') 37 (0, 0)) ∧ Below w.heap.size w w') (by kernel_rfl) ⟨HBb.out, HB.out.drew⟩ (fun _ => ?_)
              have hS : wr.drew.heap[w.heap.size + 1]? = some (.cells (s9 (.slice ax' J'.length cx') (.slice ay' R1'.length cy') (.slice az' W'.length cz') k' c' f' v' a' n') 37 (0, 0)) ∧ Below w.heap.size w wr.drew := ⟨HBb.out, HB.out.drew⟩
              replace HG := Lib.hid (show w4.heap.size ≤ wr.drew.heap.size from HG.out)
              replace HA := Lib.hid (show wr.drew.heap[w.heap.size]? = some (.cells (s9 (.slice ax lx cx) (.slice ay ly cy) (.slice az lz cz) k c f v a n) 37 (0, 0)) from HA.out)
              replace HZ := Lib.hid (show wr.drew.heap[w.heap.size + 1 + 1]? = some (.cells (s9 (.slice none 0 0) (.slice none 0 0) (.slice none 0 0) 0 0 0 0 0 0) 37 (0, 0)) from HZ.out)
              replace HS := Lib.hid (show wr.drew.heap[w.heap.size + 1 + 1 + 1]? = some (.cells (s9 (.slice aJ lJ cJ) (.slice aR lR cR) (.slice aW lW cW) k c f v a n) 37 (0, 0)) from HS.out)
              replace HJ1 := Lib.hid (show ∀ w'', Fr w4.heap.size wr.drew w'' → RA w'' → RdI w'' (.slice aJ lJ cJ) (accI J J' J'.length) from fun w'' hf hb => HJ1.out w'' ((Fr.of (B := w4.heap.size) (Below.refl _ wr).drew).trans hf) hb)
              replace HR1 := Lib.hid (show ∀ w'', Fr w4.heap.size wr.drew w'' → RA w'' → RdI w'' (.slice aR lR cR) (accI R1 R1' R1'.length) from fun w'' hf hb => HR1.out w'' ((Fr.of (B := w4.heap.size) (Below.refl _ wr).drew).trans hf) hb)
              replace HW1 := Lib.hid (show ∀ w'', Fr w4.heap.size wr.drew w'' → RA w'' → RdW w'' (.slice aW lW cW) (accW W W' j) from fun w'' hf hb => HW1.out w'' ((Fr.of (B := w4.heap.size) (Below.refl _ wr).drew).trans hf) hb)
              clear HB HBb b0 b1 b2 b3 b4 b5 b6 b7 b8
              generalize wr.drew = wa at hS HG HA HZ HS HJ1 HR1 HW1 ⊢
              refine takeH (i := 0) (v := ?_) rfl (by kernel_rfl) (by kernel_rfl) (by kernel_rfl) (fun _ _ _ h => h) (Or.inl ⟨by rfl, ?_⟩) (by assumption) ?_
              rotate_left
              · (intro w hSw; (try dsimp only at hSw); go_simp; first | done | with_reducible rfl)
              (try simp only [Act.put, List.setIfInBounds_toArray, List.set_cons_zero, List.set_cons_succ])
              refine takeH (i := 2) (v := ?_) rfl (by kernel_rfl) (by kernel_rfl) (by kernel_rfl) (fun _ _ _ h => h) (Or.inl ⟨by rfl, ?_⟩) (by assumption) ?_
              rotate_left
              · (intro w hSw; (try dsimp only at hSw); go_simp; first | done | with_reducible rfl)
              (try simp only [Act.put, List.setIfInBounds_toArray, List.set_cons_zero, List.set_cons_succ])
              refine takeH (i := 3) (v := ?_) rfl (by kernel_rfl) (by kernel_rfl) (by kernel_rfl) (fun _ _ _ h => h) (Or.inl ⟨by rfl, ?_⟩) (by assumption) ?_
              rotate_left
              · (intro w hSw; (try dsimp only at hSw); obtain ⟨⟨b0, b1, b2, b3, b4, b5, b6, b7, b8⟩, _⟩ := row9_at hSw.1; go_simp; first | done | with_reducible rfl)
              (try simp only [Act.put, List.setIfInBounds_toArray, List.set_cons_zero, List.set_cons_succ])
              refine takeH (i := 4) (v := ?_) rfl (by kernel_rfl) (by kernel_rfl) (by kernel_rfl) (fun _ _ _ h => h) (Or.inl ⟨by rfl, ?_⟩) (by assumption) ?_
              rotate_left
              · (intro w hSw; (try dsimp only at hSw); go_simp; first | done | with_reducible rfl)
              (try simp only [Act.put, List.setIfInBounds_toArray, List.set_cons_zero, List.set_cons_succ])
              refine takeH (i := 5) (v := ?_) rfl (by kernel_rfl) (by kernel_rfl) (by kernel_rfl) (fun _ _ _ h => h) (Or.inl ⟨by rfl, ?_⟩) (by assumption) ?_
              rotate_left
              · (intro w hSw; (try dsimp only at hSw); have hi := HHI.out w; go_simp; first | done | with_reducible rfl)
              (try simp only [Act.put, List.setIfInBounds_toArray, List.set_cons_zero, List.set_cons_succ])
              refine takeH (i := 6) (v := ?_) rfl (by kernel_rfl) (by kernel_rfl) (by kernel_rfl) (fun _ _ _ h => h) (Or.inl ⟨by rfl, ?_⟩) (by assumption) ?_
              rotate_left
              · (intro w hSw; (try dsimp only at hSw); obtain ⟨o1', oo', hi', _, d0, d1, d2, d3, d4⟩ := atW (HX.out.2.2.below hSw.2) j q1 q2 q3 q4 q5 HGE.out; have he := (HHI.out w).symm.trans (hi' w); injection he with he; injection he with he; injection he with he; injection he with he1 he2; subst he1; subst he2; go_simp; first | done | with_reducible rfl)
              (try simp only [Act.put, List.setIfInBounds_toArray, List.set_cons_zero, List.set_cons_succ])
              refine wpAnyH_ready (rs := [1]) (by kernel_rfl) (by simp) ?_
              refine stepH rfl (fun K hK => ?_) AllReadyH.nil
              obtain ⟨⟨s0, s1, s2, s3, s4, s5, s6, s7, s8⟩, _⟩ := row9_at HS.out
              go_simp
              refine hK.out _ _ (hS) (fun _ => ?_)
              clear hK K
              (try simp only [Act.put, List.setIfInBounds_toArray, List.set_cons_zero, List.set_cons_succ])
              clear s0 s1 s2 s3 s4 s5 s6 s7 s8
              refine wpAnyH_ready (rs := [7]) (by kernel_rfl) (by simp) ?_
              refine stepH rfl (fun K hK => ?_) AllReadyH.nil
              go_simp
              refine (oWeigh _ _ q1 q2 q3 q4 q5 wa (HW1.out wa (Fr.refl _ _) (HRA1.out _ hS.2)) HAC.out.1 HAC.out.2).mono ?_
              rintro e wq ⟨vq, rfl, hrq, hbq⟩
              obtain ⟨aq, lq, cq, hvq⟩ := hrq.shape
              subst hvq
              replace hS : wq.heap[w.heap.size + 1]? = some (.cells (s9 (.slice ax' J'.length cx') (.slice ay' R1'.length cy') (.slice az' W'.length cz') k' c' f' v' a' n') 37 (0, 0)) ∧ Below w.heap.size w wq := ⟨below_block hS.1 hbq, bnext hS.2 hbq⟩
              have hs1 := below_block HS.out hbq
              replace HA := Lib.hid (below_block HA.out hbq)
              replace HZ := Lib.hid (below_block HZ.out hbq)
              replace HJ1 := Lib.hid (fun w'' (hf : Fr w4.heap.size wq w'') hb => HJ1.out w'' ((Fr.of hbq).trans hf) hb)
              replace HR1 := Lib.hid (fun w'' (hf : Fr w4.heap.size wq w'') hb => HR1.out w'' ((Fr.of hbq).trans hf) hb)
              replace HW1 := Lib.hid (hrq.mono HG.out)
              rw [← HSC.out] at HW1
              replace HG := Lib.hid (Nat.le_trans HG.out hbq.size)
              clear hrq hbq HS
              go_wp2_with fail
              refine hK.out _ _ (hS) (fun _ => ?_)
              clear hK K
              (try simp only [Act.put, List.setIfInBounds_toArray, List.set_cons_zero, List.set_cons_succ])
              refine takeH (i := 8) (v := ?_) rfl (by kernel_rfl) (by kernel_rfl) (by kernel_rfl) (fun _ _ _ h => h) (Or.inl ⟨by rfl, ?_⟩) (by assumption) ?_
              rotate_left
              · (intro w hSw; (try dsimp only at hSw); go_simp; first | done | with_reducible rfl)
              (try simp only [Act.put, List.setIfInBounds_toArray, List.set_cons_zero, List.set_cons_succ])
              obtain ⟨⟨s0, s1, s2, s3, s4, s5, s6, s7, s8⟩, f0, f1, f2, f3, f4, f5, f6, f7, f8⟩ := row9_at hs1
              have hs2 : (wq.setCell ⟨w.heap.size + 1 + 1 + 1, 2, none⟩ (.slice aq lq cq)).heap[w.heap.size + 1 + 1 + 1]? = some (.cells (s9 (.slice aJ lJ cJ) (.slice aR lR cR) (.slice aq lq cq) k c f v a n) 37 (0, 0)) := heap_setCell_same wq _ 2 _ _ _ hs1
              have ho2 : Only (w.heap.size + 1 + 1 + 1) wq (wq.setCell ⟨w.heap.size + 1 + 1 + 1, 2, none⟩ (.slice aq lq cq)) := Only.set 2 _
              replace hS : (wq.setCell ⟨w.heap.size + 1 + 1 + 1, 2, none⟩ (.slice aq lq cq)).heap[w.heap.size + 1]? = some (.cells (s9 (.slice ax' J'.length cx') (.slice ay' R1'.length cy') (.slice az' W'.length cz') k' c' f' v' a' n') 37 (0, 0)) ∧ Below w.heap.size w (wq.setCell ⟨w.heap.size + 1 + 1 + 1, 2, none⟩ (.slice aq lq cq)) := ⟨ho2.at hS.1 (by omega), hS.2.trans (ho2.below (by omega) hS.2.size)⟩
              replace HA := Lib.hid (ho2.at HA.out (by omega))
              replace HZ := Lib.hid (ho2.at HZ.out (by omega))
              have HS := Lib.hid hs2
              have hfo : Fr w4.heap.size wq (wq.setCell ⟨w.heap.size + 1 + 1 + 1, 2, none⟩ (.slice aq lq cq)) := Fr.only ho2 (by have := HSZ.out; omega)
              replace HJ1 := Lib.hid (fun w'' (hf : Fr w4.heap.size (wq.setCell ⟨w.heap.size + 1 + 1 + 1, 2, none⟩ (.slice aq lq cq)) w'') hb => HJ1.out w'' (hfo.trans hf) hb)
              replace HR1 := Lib.hid (fun w'' (hf : Fr w4.heap.size (wq.setCell ⟨w.heap.size + 1 + 1 + 1, 2, none⟩ (.slice aq lq cq)) w'') hb => HR1.out w'' (hfo.trans hf) hb)
              replace HW1 := Lib.hid (fun w'' (hf : Fr w4.heap.size (wq.setCell ⟨w.heap.size + 1 + 1 + 1, 2, none⟩ (.slice aq lq cq)) w'') (_ : RA w'') => HW1.out w'' (hfo.trans hf))
              replace HG := Lib.hid (Nat.le_trans HG.out ho2.size)
              clear hs2 ho2 hfo
              refine wpAnyH_ready (rs := [9]) (by kernel_rfl) (by simp) ?_
              refine stepH rfl (fun K hK => ?_) AllReadyH.nil
              go_simp
              refine hK.out _ _ (hS) (fun _ => ?_)
              clear hK K
              (try simp only [Act.put, List.setIfInBounds_toArray, List.set_cons_zero, List.set_cons_succ])
              refine wpAnyH_done (by kernel_rfl) ?_ _
              generalize (wq.setCell ⟨w.heap.size + 1 + 1 + 1, 2, none⟩ (.slice aq lq cq)) = wz at hS HS HA HZ HJ1 HR1 HW1 HG ⊢
              have HB := Lib.hid hS.2
              have HBb := Lib.hid hS.1
              clear s0 s1 s2 s3 s4 s5 s6 s7 s8 f0 f1 f2 f3 f4 f5 f6 f7 f8 hs1 hS
              go_wp2
              go_roundw
              case rel => exact ⟨j + 1, _, _, _, by omega, by go_num, HB, HG, HA, HBb, HZ, HS, HJ1, HR1, HW1⟩
              case measure => simp [intOf]; omega
            · have hq : ¬ ((j : Int) < (W'.length : Int)) := by omega
              obtain rfl : j = W'.length := by omega
              obtain ⟨wo, rfl⟩ : ∃ wo, wo = wr := ⟨wr, rfl⟩
              clear b0 b1 b2 b3 b4 b5 b6 b7 b8 hj hlt
              obtain ⟨⟨b0, b1, b2, b3, b4, b5, b6, b7, b8⟩, _⟩ := row9_at HBb.out
              have hneq := fun w => neq_rule k' c' f' 0 0 0 w
              have heq := fun w => eql_rule k c f 0 0 0 w
              have hf := HFIN.out
              have hl := fun w => rLater 0 0 v' a' n' 0 0 v a n w
              obtain ⟨zb, hzb⟩ : ∃ z, z = decide (k' = 0 ∧ c' = 0 ∧ f' = 0) := ⟨_, rfl⟩
              obtain ⟨za, hza⟩ : ∃ z, z = decide (k = 0 ∧ c = 0 ∧ f = 0) := ⟨_, rfl⟩
              obtain ⟨af, haf⟩ : ∃ z, z = MM.aft (v', a', n') (v, a, n) := ⟨_, rfl⟩
              rw [← hzb] at hneq hf
              rw [← hza] at heq hf
              rw [← haf] at hf hl
              have HF2 := Lib.hid hf
              have HL := Lib.hid hl
              clear hzb hza haf hf hl HFIN
              -- the two entries' boxes
              obtain ⟨X, hX⟩ : ∃ X, X = wo.heap.size := ⟨_, rfl⟩
              obtain ⟨wm, w5, hwm, hw5, hbm, hb5, hx5, hy5⟩ : ∃ wm w5, wo.alloc (.cells #[.int .i64 0, .int .i64 0, .int .i64 v, .int .i64 a, .int .i64 n] 62) = wm ∧ wm.alloc (.cells #[.int .i64 0, .int .i64 0, .int .i64 v', .int .i64 a', .int .i64 n'] 62) = w5 ∧ Below wo.heap.size wo wm ∧ Below wo.heap.size wo w5 ∧
                  w5.heap[X]? = some (.cells #[.int .i64 0, .int .i64 0, .int .i64 v, .int .i64 a, .int .i64 n] 62 (0, 0)) ∧ w5.heap[wm.heap.size]? = some (.cells #[.int .i64 0, .int .i64 0, .int .i64 v', .int .i64 a', .int .i64 n'] 62 (0, 0)) := by
                have b1 := below_fresh wo (.cells #[.int .i64 0, .int .i64 0, .int .i64 v, .int .i64 a, .int .i64 n] 62)
                have h1 := heap_alloc_new wo (.cells #[.int .i64 0, .int .i64 0, .int .i64 v, .int .i64 a, .int .i64 n] 62)
                have b2 := below_fresh (wo.alloc (.cells #[.int .i64 0, .int .i64 0, .int .i64 v, .int .i64 a, .int .i64 n] 62)) (.cells #[.int .i64 0, .int .i64 0, .int .i64 v', .int .i64 a', .int .i64 n'] 62)
                have h2 := heap_alloc_new (wo.alloc (.cells #[.int .i64 0, .int .i64 0, .int .i64 v, .int .i64 a, .int .i64 n] 62)) (.cells #[.int .i64 0, .int .i64 0, .int .i64 v', .int .i64 a', .int .i64 n'] 62)
                rw [← hX] at h1
                exact ⟨_, _, rfl, rfl, b1, bnext b1 b2, below_block h1 b2, h2⟩
              have HX5 := Lib.hid hx5
              have HY5 := Lib.hid hy5
              have HXL := Lib.hid (show w.heap.size + 1 + 1 + 1 < X by have := (Array.getElem?_eq_some_iff.1 HS.out).1; omega)
              have HW5 := Lib.hid hw5
              have HWM := Lib.hid hwm
              have HBm := Lib.hid (below_block HBb.out hbm)
              have HXE := Lib.hid hX
              have HA5 := Lib.hid (below_block HA.out hb5)
              have HBb5 := Lib.hid (below_block HBb.out hb5)
              have HZ5 := Lib.hid (below_block HZ.out hb5)
              have HS5 := Lib.hid (below_block HS.out hb5)
              have HB5 := Lib.hid (bnext HB.out hb5)
              have HG5 := Lib.hid (Nat.le_trans HG.out hb5.size)
              have HJ5 := Lib.hid (fun w'' (hf : Fr w4.heap.size w5 w'') hb => HJ1.out w'' ((Fr.of hb5).trans hf) hb)
              have HR5 := Lib.hid (fun w'' (hf : Fr w4.heap.size w5 w'') hb => HR1.out w'' ((Fr.of hb5).trans hf) hb)
              have HW5' := Lib.hid (fun w'' (hf : Fr w4.heap.size w5 w'') hb => HW1.out w'' ((Fr.of hb5).trans hf) hb)
              obtain ⟨⟨a0, a1, a2, a3, a4, a5, a6, a7, a8⟩, _⟩ := row9_at HA.out
              clear hw5 hb5 hx5 hy5 hX hwm hbm
              go_upto_region 15 with fail
              rw [HWM.out]
              clear b0 b1 b2 b3 b4 b5 b6 b7 b8 a0 a1 a2 a3 a4 a5 a6 a7 a8 hq
              obtain ⟨⟨b0, b1, b2, b3, b4, b5, b6, b7, b8⟩, _⟩ := row9_at HBm.out
              go_upto_region 16 with fail
              rw [HW5.out, ← HXE.out]
              clear HB HA HBb HZ HS HG HJ1 HR1 HW1 HW5 HXE HWM HBm
              clear b0 b1 b2 b3 b4 b5 b6 b7 b8
              obtain ⟨⟨a0, a1, a2, a3, a4, a5, a6, a7, a8⟩, _⟩ := row9_at HA5.out
              obtain ⟨⟨b0, b1, b2, b3, b4, b5, b6, b7, b8⟩, _⟩ := row9_at HBb5.out
              obtain ⟨⟨s0, s1, s2, s3, s4, s5, s6, s7, s8⟩, f0, f1, f2, f3, f4, f5, f6, f7, f8⟩ := row9_at HS5.out
              obtain ⟨⟨z0, z1, z2, z3, z4, z5, z6, z7, z8⟩, y0, y1, y2, y3, y4, y5, y6, y7, y8⟩ := row9_at HZ5.out
              have hne : ¬ (w.heap.size + 1 = w.heap.size + 1 + 1 + 1) := by omega
              have hne2 : ¬ (w.heap.size + 1 + 1 = w.heap.size + 1 + 1 + 1) := by omega
              cases zb
              · cases za
                · obtain ⟨⟨x0, x1, x2, x3, x4⟩, _⟩ := row5_at HX5.out
                  obtain ⟨⟨g0, g1, g2, g3, g4⟩, _⟩ := row5_at HY5.out
                  go_wp2_with fail
                  refine (HL.out w5).mono ?_
                  rintro e w6 ⟨rfl, hb6⟩
                  replace HBb5 := Lib.hid (below_block HBb5.out hb6)
                  replace HZ5 := Lib.hid (below_block HZ5.out hb6)
                  replace HS5 := Lib.hid (below_block HS5.out hb6)
                  replace HB5 := Lib.hid (bnext HB5.out hb6)
                  replace HJ5 := Lib.hid (fun w'' (hf : Fr w4.heap.size w6 w'') hb => HJ5.out w'' ((Fr.of hb6).trans hf) hb)
                  replace HR5 := Lib.hid (fun w'' (hf : Fr w4.heap.size w6 w'') hb => HR5.out w'' ((Fr.of hb6).trans hf) hb)
                  replace HW5' := Lib.hid (fun w'' (hf : Fr w4.heap.size w6 w'') hb => HW5'.out w'' ((Fr.of hb6).trans hf) hb)
                  clear hb6 a0 a1 a2 a3 a4 a5 a6 a7 a8 b0 b1 b2 b3 b4 b5 b6 b7 b8 s0 s1 s2 s3 s4 s5 s6 s7 s8 f0 f1 f2 f3 f4 f5 f6 f7 f8 z0 z1 z2 z3 z4 z5 z6 z7 z8 y0 y1 y2 y3 y4 y5 y6 y7 y8 x0 x1 x2 x3 x4 g0 g1 g2 g3 g4 HX5 HY5 HA5
                  obtain ⟨⟨b0, b1, b2, b3, b4, b5, b6, b7, b8⟩, _⟩ := row9_at HBb5.out
                  obtain ⟨⟨s0, s1, s2, s3, s4, s5, s6, s7, s8⟩, f0, f1, f2, f3, f4, f5, f6, f7, f8⟩ := row9_at HS5.out
                  obtain ⟨⟨z0, z1, z2, z3, z4, z5, z6, z7, z8⟩, y0, y1, y2, y3, y4, y5, y6, y7, y8⟩ := row9_at HZ5.out
                  cases af
                  · go_upto_region 21 with fail
                    clear hneq heq hne hne2 b0 b1 b2 b3 b4 b5 b6 b7 b8 s0 s1 s2 s3 s4 s5 s6 s7 s8 f0 f1 f2 f3 f4 f5 f6 f7 f8 z0 z1 z2 z3 z4 z5 z6 z7 z8 y0 y1 y2 y3 y4 y5 y6 y7 y8
                    have HS6 := HS5
                    have HZ6 := HZ5
                    have HB6 := HB5
                    have HJ6 := HJ5
                    have HR6 := HR5
                    have HW6 := HW5'
                    clear HS5 HZ5 HB5 HJ5 HR5 HW5' HBb5 HL
                    obtain ⟨⟨s0, s1, s2, s3, s4, s5, s6, s7, s8⟩, _⟩ := row9_at HS6.out
                    obtain ⟨⟨z0, z1, z2, z3, z4, z5, z6, z7, z8⟩, y0, y1, y2, y3, y4, y5, y6, y7, y8⟩ := row9_at HZ6.out
                    go_wp2
                    have hput := row9_put HZ6.out (.slice aJ lJ cJ) (.slice aR lR cR) (.slice aW lW cW) (.int .i64 k) (.int .i64 c) (.int .i64 f) (.int .i64 v) (.int .i64 a) (.int .i64 n) w.heap.size (by omega)
                    have hon := onlyc9 (w := w6) (g := w.heap.size + 1 + 1) (.slice aJ lJ cJ) (.slice aR lR cR) (.slice aW lW cW) (.int .i64 k) (.int .i64 c) (.int .i64 f) (.int .i64 v) (.int .i64 a) (.int .i64 n)
                    refine rjoin_ret rfl hput.1 rfl ⟨_, rfl, ?_, HB6.out.trans hput.2⟩
                    rw [HF2.out false rfl]
                    intro w'' hf hra
                    have hra2 := HRA3.out _ hra
                    have hlast := (Fr.only (B := w4.heap.size) hon (by have := HSZ.out; omega)).trans (hf.mono (by have := HSZ.out; omega))
                    exact ⟨_, _, _, rfl, HJ6.out _ hlast hra2, HR6.out _ hlast hra2, HW6.out _ hlast hra2⟩
                  · go_upto_region 21 with fail
                    clear hneq heq hne hne2 b0 b1 b2 b3 b4 b5 b6 b7 b8 s0 s1 s2 s3 s4 s5 s6 s7 s8 f0 f1 f2 f3 f4 f5 f6 f7 f8 z0 z1 z2 z3 z4 z5 z6 z7 z8 y0 y1 y2 y3 y4 y5 y6 y7 y8
                    have hs0 : (w6.setCell ⟨w.heap.size + 1 + 1 + 1, 3, none⟩ (.int .i64 k')).heap[w.heap.size + 1 + 1 + 1]? = some (.cells #[.slice aJ lJ cJ, .slice aR lR cR, .slice aW lW cW, .int .i64 k', .int .i64 c, .int .i64 f, .int .i64 v, .int .i64 a, .int .i64 n] 37 (0, 0)) := heap_setCell_same _ (w.heap.size + 1 + 1 + 1) 3 _ _ _ HS5.out
                    have hs1 : ((w6.setCell ⟨w.heap.size + 1 + 1 + 1, 3, none⟩ (.int .i64 k')).setCell ⟨w.heap.size + 1 + 1 + 1, 4, none⟩ (.int .i64 c')).heap[w.heap.size + 1 + 1 + 1]? = some (.cells #[.slice aJ lJ cJ, .slice aR lR cR, .slice aW lW cW, .int .i64 k', .int .i64 c', .int .i64 f, .int .i64 v, .int .i64 a, .int .i64 n] 37 (0, 0)) := heap_setCell_same _ (w.heap.size + 1 + 1 + 1) 4 _ _ _ hs0
                    have hs2 : (((w6.setCell ⟨w.heap.size + 1 + 1 + 1, 3, none⟩ (.int .i64 k')).setCell ⟨w.heap.size + 1 + 1 + 1, 4, none⟩ (.int .i64 c')).setCell ⟨w.heap.size + 1 + 1 + 1, 5, none⟩ (.int .i64 f')).heap[w.heap.size + 1 + 1 + 1]? = some (.cells #[.slice aJ lJ cJ, .slice aR lR cR, .slice aW lW cW, .int .i64 k', .int .i64 c', .int .i64 f', .int .i64 v, .int .i64 a, .int .i64 n] 37 (0, 0)) := heap_setCell_same _ (w.heap.size + 1 + 1 + 1) 5 _ _ _ hs1
                    have hs3 : ((((w6.setCell ⟨w.heap.size + 1 + 1 + 1, 3, none⟩ (.int .i64 k')).setCell ⟨w.heap.size + 1 + 1 + 1, 4, none⟩ (.int .i64 c')).setCell ⟨w.heap.size + 1 + 1 + 1, 5, none⟩ (.int .i64 f')).setCell ⟨w.heap.size + 1 + 1 + 1, 6, none⟩ (.int .i64 v')).heap[w.heap.size + 1 + 1 + 1]? = some (.cells #[.slice aJ lJ cJ, .slice aR lR cR, .slice aW lW cW, .int .i64 k', .int .i64 c', .int .i64 f', .int .i64 v', .int .i64 a, .int .i64 n] 37 (0, 0)) := heap_setCell_same _ (w.heap.size + 1 + 1 + 1) 6 _ _ _ hs2
                    have hs4 : (((((w6.setCell ⟨w.heap.size + 1 + 1 + 1, 3, none⟩ (.int .i64 k')).setCell ⟨w.heap.size + 1 + 1 + 1, 4, none⟩ (.int .i64 c')).setCell ⟨w.heap.size + 1 + 1 + 1, 5, none⟩ (.int .i64 f')).setCell ⟨w.heap.size + 1 + 1 + 1, 6, none⟩ (.int .i64 v')).setCell ⟨w.heap.size + 1 + 1 + 1, 7, none⟩ (.int .i64 a')).heap[w.heap.size + 1 + 1 + 1]? = some (.cells #[.slice aJ lJ cJ, .slice aR lR cR, .slice aW lW cW, .int .i64 k', .int .i64 c', .int .i64 f', .int .i64 v', .int .i64 a', .int .i64 n] 37 (0, 0)) := heap_setCell_same _ (w.heap.size + 1 + 1 + 1) 7 _ _ _ hs3
                    have hs5 : ((((((w6.setCell ⟨w.heap.size + 1 + 1 + 1, 3, none⟩ (.int .i64 k')).setCell ⟨w.heap.size + 1 + 1 + 1, 4, none⟩ (.int .i64 c')).setCell ⟨w.heap.size + 1 + 1 + 1, 5, none⟩ (.int .i64 f')).setCell ⟨w.heap.size + 1 + 1 + 1, 6, none⟩ (.int .i64 v')).setCell ⟨w.heap.size + 1 + 1 + 1, 7, none⟩ (.int .i64 a')).setCell ⟨w.heap.size + 1 + 1 + 1, 8, none⟩ (.int .i64 n')).heap[w.heap.size + 1 + 1 + 1]? = some (.cells #[.slice aJ lJ cJ, .slice aR lR cR, .slice aW lW cW, .int .i64 k', .int .i64 c', .int .i64 f', .int .i64 v', .int .i64 a', .int .i64 n'] 37 (0, 0)) := heap_setCell_same _ (w.heap.size + 1 + 1 + 1) 8 _ _ _ hs4
                    have ho2 : Only (w.heap.size + 1 + 1 + 1) w6 ((((((w6.setCell ⟨w.heap.size + 1 + 1 + 1, 3, none⟩ (.int .i64 k')).setCell ⟨w.heap.size + 1 + 1 + 1, 4, none⟩ (.int .i64 c')).setCell ⟨w.heap.size + 1 + 1 + 1, 5, none⟩ (.int .i64 f')).setCell ⟨w.heap.size + 1 + 1 + 1, 6, none⟩ (.int .i64 v')).setCell ⟨w.heap.size + 1 + 1 + 1, 7, none⟩ (.int .i64 a')).setCell ⟨w.heap.size + 1 + 1 + 1, 8, none⟩ (.int .i64 n')) := (((((Only.set 3 _).trans (Only.set 4 _)).trans (Only.set 5 _)).trans (Only.set 6 _)).trans (Only.set 7 _)).trans (Only.set 8 _)
                    clear hs0 hs1 hs2 hs3 hs4
                    generalize ((((((w6.setCell ⟨w.heap.size + 1 + 1 + 1, 3, none⟩ (.int .i64 k')).setCell ⟨w.heap.size + 1 + 1 + 1, 4, none⟩ (.int .i64 c')).setCell ⟨w.heap.size + 1 + 1 + 1, 5, none⟩ (.int .i64 f')).setCell ⟨w.heap.size + 1 + 1 + 1, 6, none⟩ (.int .i64 v')).setCell ⟨w.heap.size + 1 + 1 + 1, 7, none⟩ (.int .i64 a')).setCell ⟨w.heap.size + 1 + 1 + 1, 8, none⟩ (.int .i64 n')) = wl at hs5 ho2 ⊢
                    have HS6 := Lib.hid hs5
                    have HZ6 := Lib.hid (ho2.at HZ5.out (by omega))
                    have HB6 := Lib.hid (HB5.out.trans (ho2.below (by omega) HB5.out.size))
                    have HJ6 := Lib.hid (fun w'' (hf : Fr w4.heap.size wl w'') hb => HJ5.out w'' ((Fr.only ho2 (by have := HSZ.out; omega)).trans hf) hb)
                    have HR6 := Lib.hid (fun w'' (hf : Fr w4.heap.size wl w'') hb => HR5.out w'' ((Fr.only ho2 (by have := HSZ.out; omega)).trans hf) hb)
                    have HW6 := Lib.hid (fun w'' (hf : Fr w4.heap.size wl w'') hb => HW5'.out w'' ((Fr.only ho2 (by have := HSZ.out; omega)).trans hf) hb)
                    clear hs5 ho2
                    clear HS5 HZ5 HB5 HJ5 HR5 HW5' HBb5 HL
                    obtain ⟨⟨s0, s1, s2, s3, s4, s5, s6, s7, s8⟩, _⟩ := row9_at HS6.out
                    obtain ⟨⟨z0, z1, z2, z3, z4, z5, z6, z7, z8⟩, y0, y1, y2, y3, y4, y5, y6, y7, y8⟩ := row9_at HZ6.out
                    go_wp2
                    have hput := row9_put HZ6.out (.slice aJ lJ cJ) (.slice aR lR cR) (.slice aW lW cW) (.int .i64 k') (.int .i64 c') (.int .i64 f') (.int .i64 v') (.int .i64 a') (.int .i64 n') w.heap.size (by omega)
                    have hon := onlyc9 (w := wl) (g := w.heap.size + 1 + 1) (.slice aJ lJ cJ) (.slice aR lR cR) (.slice aW lW cW) (.int .i64 k') (.int .i64 c') (.int .i64 f') (.int .i64 v') (.int .i64 a') (.int .i64 n')
                    refine rjoin_ret rfl hput.1 rfl ⟨_, rfl, ?_, HB6.out.trans hput.2⟩
                    rw [HF2.out true rfl]
                    intro w'' hf hra
                    have hra2 := HRA3.out _ hra
                    have hlast := (Fr.only (B := w4.heap.size) hon (by have := HSZ.out; omega)).trans (hf.mono (by have := HSZ.out; omega))
                    exact ⟨_, _, _, rfl, HJ6.out _ hlast hra2, HR6.out _ hlast hra2, HW6.out _ hlast hra2⟩
                · go_upto_region 21 with fail
                  clear hneq heq hne hne2 b0 b1 b2 b3 b4 b5 b6 b7 b8 s0 s1 s2 s3 s4 s5 s6 s7 s8 f0 f1 f2 f3 f4 f5 f6 f7 f8 z0 z1 z2 z3 z4 z5 z6 z7 z8 y0 y1 y2 y3 y4 y5 y6 y7 y8 a0 a1 a2 a3 a4 a5 a6 a7 a8
                  have hs0 : (w5.setCell ⟨w.heap.size + 1 + 1 + 1, 3, none⟩ (.int .i64 k')).heap[w.heap.size + 1 + 1 + 1]? = some (.cells #[.slice aJ lJ cJ, .slice aR lR cR, .slice aW lW cW, .int .i64 k', .int .i64 c, .int .i64 f, .int .i64 v, .int .i64 a, .int .i64 n] 37 (0, 0)) := heap_setCell_same _ (w.heap.size + 1 + 1 + 1) 3 _ _ _ HS5.out
                  have hs1 : ((w5.setCell ⟨w.heap.size + 1 + 1 + 1, 3, none⟩ (.int .i64 k')).setCell ⟨w.heap.size + 1 + 1 + 1, 4, none⟩ (.int .i64 c')).heap[w.heap.size + 1 + 1 + 1]? = some (.cells #[.slice aJ lJ cJ, .slice aR lR cR, .slice aW lW cW, .int .i64 k', .int .i64 c', .int .i64 f, .int .i64 v, .int .i64 a, .int .i64 n] 37 (0, 0)) := heap_setCell_same _ (w.heap.size + 1 + 1 + 1) 4 _ _ _ hs0
                  have hs2 : (((w5.setCell ⟨w.heap.size + 1 + 1 + 1, 3, none⟩ (.int .i64 k')).setCell ⟨w.heap.size + 1 + 1 + 1, 4, none⟩ (.int .i64 c')).setCell ⟨w.heap.size + 1 + 1 + 1, 5, none⟩ (.int .i64 f')).heap[w.heap.size + 1 + 1 + 1]? = some (.cells #[.slice aJ lJ cJ, .slice aR lR cR, .slice aW lW cW, .int .i64 k', .int .i64 c', .int .i64 f', .int .i64 v, .int .i64 a, .int .i64 n] 37 (0, 0)) := heap_setCell_same _ (w.heap.size + 1 + 1 + 1) 5 _ _ _ hs1
                  have hs3 : ((((w5.setCell ⟨w.heap.size + 1 + 1 + 1, 3, none⟩ (.int .i64 k')).setCell ⟨w.heap.size + 1 + 1 + 1, 4, none⟩ (.int .i64 c')).setCell ⟨w.heap.size + 1 + 1 + 1, 5, none⟩ (.int .i64 f')).setCell ⟨w.heap.size + 1 + 1 + 1, 6, none⟩ (.int .i64 v')).heap[w.heap.size + 1 + 1 + 1]? = some (.cells #[.slice aJ lJ cJ, .slice aR lR cR, .slice aW lW cW, .int .i64 k', .int .i64 c', .int .i64 f', .int .i64 v', .int .i64 a, .int .i64 n] 37 (0, 0)) := heap_setCell_same _ (w.heap.size + 1 + 1 + 1) 6 _ _ _ hs2
                  have hs4 : (((((w5.setCell ⟨w.heap.size + 1 + 1 + 1, 3, none⟩ (.int .i64 k')).setCell ⟨w.heap.size + 1 + 1 + 1, 4, none⟩ (.int .i64 c')).setCell ⟨w.heap.size + 1 + 1 + 1, 5, none⟩ (.int .i64 f')).setCell ⟨w.heap.size + 1 + 1 + 1, 6, none⟩ (.int .i64 v')).setCell ⟨w.heap.size + 1 + 1 + 1, 7, none⟩ (.int .i64 a')).heap[w.heap.size + 1 + 1 + 1]? = some (.cells #[.slice aJ lJ cJ, .slice aR lR cR, .slice aW lW cW, .int .i64 k', .int .i64 c', .int .i64 f', .int .i64 v', .int .i64 a', .int .i64 n] 37 (0, 0)) := heap_setCell_same _ (w.heap.size + 1 + 1 + 1) 7 _ _ _ hs3
                  have hs5 : ((((((w5.setCell ⟨w.heap.size + 1 + 1 + 1, 3, none⟩ (.int .i64 k')).setCell ⟨w.heap.size + 1 + 1 + 1, 4, none⟩ (.int .i64 c')).setCell ⟨w.heap.size + 1 + 1 + 1, 5, none⟩ (.int .i64 f')).setCell ⟨w.heap.size + 1 + 1 + 1, 6, none⟩ (.int .i64 v')).setCell ⟨w.heap.size + 1 + 1 + 1, 7, none⟩ (.int .i64 a')).setCell ⟨w.heap.size + 1 + 1 + 1, 8, none⟩ (.int .i64 n')).heap[w.heap.size + 1 + 1 + 1]? = some (.cells #[.slice aJ lJ cJ, .slice aR lR cR, .slice aW lW cW, .int .i64 k', .int .i64 c', .int .i64 f', .int .i64 v', .int .i64 a', .int .i64 n'] 37 (0, 0)) := heap_setCell_same _ (w.heap.size + 1 + 1 + 1) 8 _ _ _ hs4
                  have ho2 : Only (w.heap.size + 1 + 1 + 1) w5 ((((((w5.setCell ⟨w.heap.size + 1 + 1 + 1, 3, none⟩ (.int .i64 k')).setCell ⟨w.heap.size + 1 + 1 + 1, 4, none⟩ (.int .i64 c')).setCell ⟨w.heap.size + 1 + 1 + 1, 5, none⟩ (.int .i64 f')).setCell ⟨w.heap.size + 1 + 1 + 1, 6, none⟩ (.int .i64 v')).setCell ⟨w.heap.size + 1 + 1 + 1, 7, none⟩ (.int .i64 a')).setCell ⟨w.heap.size + 1 + 1 + 1, 8, none⟩ (.int .i64 n')) := (((((Only.set 3 _).trans (Only.set 4 _)).trans (Only.set 5 _)).trans (Only.set 6 _)).trans (Only.set 7 _)).trans (Only.set 8 _)
                  clear hs0 hs1 hs2 hs3 hs4
                  generalize ((((((w5.setCell ⟨w.heap.size + 1 + 1 + 1, 3, none⟩ (.int .i64 k')).setCell ⟨w.heap.size + 1 + 1 + 1, 4, none⟩ (.int .i64 c')).setCell ⟨w.heap.size + 1 + 1 + 1, 5, none⟩ (.int .i64 f')).setCell ⟨w.heap.size + 1 + 1 + 1, 6, none⟩ (.int .i64 v')).setCell ⟨w.heap.size + 1 + 1 + 1, 7, none⟩ (.int .i64 a')).setCell ⟨w.heap.size + 1 + 1 + 1, 8, none⟩ (.int .i64 n')) = wl at hs5 ho2 ⊢
                  have HS6 := Lib.hid hs5
                  have HZ6 := Lib.hid (ho2.at HZ5.out (by omega))
                  have HB6 := Lib.hid (HB5.out.trans (ho2.below (by omega) HB5.out.size))
                  have HJ6 := Lib.hid (fun w'' (hf : Fr w4.heap.size wl w'') hb => HJ5.out w'' ((Fr.only ho2 (by have := HSZ.out; omega)).trans hf) hb)
                  have HR6 := Lib.hid (fun w'' (hf : Fr w4.heap.size wl w'') hb => HR5.out w'' ((Fr.only ho2 (by have := HSZ.out; omega)).trans hf) hb)
                  have HW6 := Lib.hid (fun w'' (hf : Fr w4.heap.size wl w'') hb => HW5'.out w'' ((Fr.only ho2 (by have := HSZ.out; omega)).trans hf) hb)
                  clear hs5 ho2
                  clear HS5 HZ5 HB5 HJ5 HR5 HW5' HBb5 HL
                  obtain ⟨⟨s0, s1, s2, s3, s4, s5, s6, s7, s8⟩, _⟩ := row9_at HS6.out
                  obtain ⟨⟨z0, z1, z2, z3, z4, z5, z6, z7, z8⟩, y0, y1, y2, y3, y4, y5, y6, y7, y8⟩ := row9_at HZ6.out
                  go_wp2
                  have hput := row9_put HZ6.out (.slice aJ lJ cJ) (.slice aR lR cR) (.slice aW lW cW) (.int .i64 k') (.int .i64 c') (.int .i64 f') (.int .i64 v') (.int .i64 a') (.int .i64 n') w.heap.size (by omega)
                  have hon := onlyc9 (w := wl) (g := w.heap.size + 1 + 1) (.slice aJ lJ cJ) (.slice aR lR cR) (.slice aW lW cW) (.int .i64 k') (.int .i64 c') (.int .i64 f') (.int .i64 v') (.int .i64 a') (.int .i64 n')
                  refine rjoin_ret rfl hput.1 rfl ⟨_, rfl, ?_, HB6.out.trans hput.2⟩
                  rw [HF2.out true rfl]
                  intro w'' hf hra
                  have hra2 := HRA3.out _ hra
                  have hlast := (Fr.only (B := w4.heap.size) hon (by have := HSZ.out; omega)).trans (hf.mono (by have := HSZ.out; omega))
                  exact ⟨_, _, _, rfl, HJ6.out _ hlast hra2, HR6.out _ hlast hra2, HW6.out _ hlast hra2⟩
              · go_upto_region 21 with fail
                clear hneq heq hne hne2 b0 b1 b2 b3 b4 b5 b6 b7 b8 s0 s1 s2 s3 s4 s5 s6 s7 s8 f0 f1 f2 f3 f4 f5 f6 f7 f8 z0 z1 z2 z3 z4 z5 z6 z7 z8 y0 y1 y2 y3 y4 y5 y6 y7 y8 a0 a1 a2 a3 a4 a5 a6 a7 a8
                have HS6 := HS5
                have HZ6 := HZ5
                have HB6 := HB5
                have HJ6 := HJ5
                have HR6 := HR5
                have HW6 := HW5'
                clear HS5 HZ5 HB5 HJ5 HR5 HW5' HBb5 HL
                obtain ⟨⟨s0, s1, s2, s3, s4, s5, s6, s7, s8⟩, _⟩ := row9_at HS6.out
                obtain ⟨⟨z0, z1, z2, z3, z4, z5, z6, z7, z8⟩, y0, y1, y2, y3, y4, y5, y6, y7, y8⟩ := row9_at HZ6.out
                go_wp2
                have hput := row9_put HZ6.out (.slice aJ lJ cJ) (.slice aR lR cR) (.slice aW lW cW) (.int .i64 k) (.int .i64 c) (.int .i64 f) (.int .i64 v) (.int .i64 a) (.int .i64 n) w.heap.size (by omega)
                have hon := onlyc9 (w := w5) (g := w.heap.size + 1 + 1) (.slice aJ lJ cJ) (.slice aR lR cR) (.slice aW lW cW) (.int .i64 k) (.int .i64 c) (.int .i64 f) (.int .i64 v) (.int .i64 a) (.int .i64 n)
                refine rjoin_ret rfl hput.1 rfl ⟨_, rfl, ?_, HB6.out.trans hput.2⟩
                rw [HF2.out false rfl]
                intro w'' hf hra
                have hra2 := HRA3.out _ hra
                have hlast := (Fr.only (B := w4.heap.size) hon (by have := HSZ.out; omega)).trans (hf.mono (by have := HSZ.out; omega))
                exact ⟨_, _, _, rfl, HJ6.out _ hlast hra2, HR6.out _ hlast hra2, HW6.out _ hlast hra2⟩

end Go.Proofs.YtkaafbdhgekeeaaGreat
