/-
  The call of the program's View: it returns the view of a summary. Conditions: the summary reads, its lists ascend and are short.
-/
import Derived.Test.YtkaafbdhgekeeaaGreatMBw
namespace Go.Proofs.YtkaafbdhgekeeaaGreat
open Go.RowKit
open MM (Mem Ent Sm Tri)

abbrev v4 (s : Value) (k c f : Int) : Array Value := #[s, .int .i64 k, .int .i64 c, .int .i64 f]
theorem view_ret {R : Ending → World → Prop} {a : Act} {w : World} {g : Nat} {s : Value} {k c f : Int} (hp : a.tmps.getD 2 undef = .pointer (some ⟨g, 0, none⟩)) (hg : w.heap[g]? = some (.cells (v4 s k c f) 41 (0, 0)))
    (hd : a.defers = []) (hR : R (.returned (vw s k c f)) w) : bodyPost Tryz.prog Tryz.f13 R .ret a w :=
  bodyPost_ret (results_cell_row (P := Tryz.prog) rfl a.tmps w g 41 _ _ _ hp hg Tryz.underlying41 rfl (by kernel_rfl)) hd hR
theorem view_boxes (w : World) (x y z : Value) (k c f v a n K : Int) :
    ∃ w3, ((w.alloc (.cells (s9 x y z k c f v a n) 37)).alloc (.cells (v4 (.slice none 0 0) 0 0 0) 41)).alloc (.cells (v4 (.slice none 0 0) K c f) 41) = w3 ∧ Below w.heap.size w w3 ∧ w3.heap.size = w.heap.size + 3 ∧
      w3.heap[w.heap.size]? = some (.cells (s9 x y z k c f v a n) 37 (0, 0)) ∧
      w3.heap[w.heap.size + 1]? = some (.cells (v4 (.slice none 0 0) 0 0 0) 41 (0, 0)) ∧
      w3.heap[w.heap.size + 1 + 1]? = some (.cells (v4 (.slice none 0 0) K c f) 41 (0, 0)) := by
  have h1 := heap_alloc_new w (.cells (s9 x y z k c f v a n) 37)
  have b1 := below_fresh w (.cells (s9 x y z k c f v a n) 37)
  have z1 := World.size_alloc w (.cells (s9 x y z k c f v a n) 37)
  generalize w.alloc (.cells (s9 x y z k c f v a n) 37) = w1 at *
  have h2 := heap_alloc_new w1 (.cells (v4 (.slice none 0 0) 0 0 0) 41)
  have b2 := below_fresh w1 (.cells (v4 (.slice none 0 0) 0 0 0) 41)
  have z2 := World.size_alloc w1 (.cells (v4 (.slice none 0 0) 0 0 0) 41)
  generalize w1.alloc (.cells (v4 (.slice none 0 0) 0 0 0) 41) = w2 at *
  have h3 := heap_alloc_new w2 (.cells (v4 (.slice none 0 0) K c f) 41)
  have b3 := below_fresh w2 (.cells (v4 (.slice none 0 0) K c f) 41)
  have z3 := World.size_alloc w2 (.cells (v4 (.slice none 0 0) K c f) 41)
  refine ⟨_, rfl, bnext b1 (bnext b2 b3), by omega, below_block (below_block h1 b2) b3, ?_, ?_⟩
  · rw [← z1]; exact below_block h2 b3
  · rw [← z1, ← z2]; exact h3
/-- The members of the first j that joined. -/
def memsTo (J R : List Int) (W : List Ent) (j : Nat) : List Mem := ((J.take j).filter fun x => !R.contains x).map fun x => (x, MM.wtOf W x)
theorem memsTo_in {J R : List Int} {W : List Ent} {j : Nat} {x : Int} (h : J[j]? = some x) (hx : R.contains x = true) : memsTo J R W (j + 1) = memsTo J R W j := by
  unfold memsTo
  rw [List.take_add_one, h, List.filter_append]
  have hx2 := List.contains_iff_mem.1 hx
  simp [hx2]
theorem memsTo_out {J R : List Int} {W : List Ent} {j : Nat} {x : Int} (h : J[j]? = some x) (hx : R.contains x = false) : memsTo J R W (j + 1) = memsTo J R W j ++ [(x, MM.wtOf W x)] := by
  unfold memsTo
  rw [List.take_add_one, h, List.filter_append]
  have hx2 : ¬ x ∈ R := fun hm => by rw [List.contains_iff_mem.2 hm] at hx; cases hx
  simp [hx2]
theorem memsTo_len (J R : List Int) (W : List Ent) (j : Nat) : (memsTo J R W j).length ≤ j := by
  unfold memsTo
  rw [List.length_map]
  exact Nat.le_trans (List.length_filter_le _ _) (by rw [List.length_take]; omega)

set_option maxRecDepth 100000 in
set_option maxHeartbeats 8000000 in
theorem cView (xv : Value) (s : Sm) (w : World) (h : RdS w xv s) (hr : MM.Srt MM.kI s.R) (hw : MM.Srt MM.kW s.W) (hl : s.J.length ≤ 1000000 ∧ s.R.length ≤ 1000000 ∧ s.W.length ≤ 1000000) :
    Calls Tryz.prog 13 #[xv] w fun e w' => ∃ sl, e = .returned (vw sl (MM.vk s) s.c s.f) ∧ RdM w' sl (MM.mems s) ∧ Below w.heap.size w w' := by
  have hRS := h
  obtain ⟨x, y, z, rfl, hj, hrd, hwd⟩ := h
  obtain ⟨J, R1, W, k, c, f, v, a, n⟩ := s
  have hRS2 : RdS w (sv x y z k c f v a n) ⟨J, R1, W, k, c, f, v, a, n⟩ := hRS
  show Calls Tryz.prog 13 #[sv x y z k c f v a n] w fun e w' => ∃ sl, e = .returned (vw sl (MM.vk ⟨J, R1, W, k, c, f, v, a, n⟩) c f) ∧ RdM w' sl (MM.mems ⟨J, R1, W, k, c, f, v, a, n⟩) ∧ Below w.heap.size w w'
  have hmm : MM.mems ⟨J, R1, W, k, c, f, v, a, n⟩ = memsTo J R1 W J.length := by unfold MM.mems memsTo; rw [List.take_length]
  rw [hmm]
  have hvk : MM.vk ⟨J, R1, W, k, c, f, v, a, n⟩ = if decide (k = 0 ∧ c = 0 ∧ f = 0) = true then 1 else k := rfl
  rw [hvk]
  clear hmm hvk hRS
  dsimp only at hj hrd hwd hr hw hl
  obtain ⟨aj, cj, rfl, hcj, hlj⟩ := hj.shape
  obtain ⟨ar, cr, rfl, hcr, hlr⟩ := hrd.shape
  obtain ⟨aw, cw, rfl, hcw, hlw⟩ := hwd.shape
  obtain ⟨K, hK⟩ : ∃ K : Int, (if decide (k = 0 ∧ c = 0 ∧ f = 0) = true then 1 else k) = K := ⟨_, rfl⟩
  rw [hK]
  obtain ⟨w3, hw3, hB, hsz, hA, hZ, hS⟩ := view_boxes w (.slice aj J.length cj) (.slice ar R1.length cr) (.slice aw W.length cw) k c f v a n K
  have HRS := Lib.hid hRS2
  have HJ := Lib.hid hj
  have HR := Lib.hid hrd
  have HSR := Lib.hid hr
  have HB := Lib.hid hB
  have HSZ := Lib.hid hsz
  have HW3 := Lib.hid hw3
  have HL := Lib.hid hl
  have HWO := Lib.hid (fun (b : Int) (w1 : World) (hb : Below w.heap.size w w1) => cWeightOf _ _ b w1 (hRS2.below hb) hw hl.2.2)
  have HBS := Lib.hid (fun (b : Int) (w1 : World) (hb : Below w.heap.size w w1) => cSearchI _ R1 b w1 (hrd.below hb) hr hl.2.1)
  have HA := Lib.hid hA
  have HZ := Lib.hid hZ
  have hz4 : (k = 0 ∧ c = 0 ∧ f = 0) ∨ k ≠ 0 ∨ (k = 0 ∧ c ≠ 0) ∨ (k = 0 ∧ c = 0 ∧ f ≠ 0) := by omega
  obtain ⟨⟨s0, s1, s2, s3⟩, f0, f1, f2, f3⟩ := row4_at hS
  obtain ⟨⟨a0, a1, a2, a3, a4, a5, a6, a7, a8⟩, _⟩ := row9_at hA
  have HS := Lib.hid hS
  have HI0 := Lib.hid (show OwnM w3.heap.size w3 (.slice none 0 0) (memsTo J R1 W 0) from OwnG.nil hlM _ _ _)
  clear hRS2 hj hrd hwd hr hw hl hw3 hB hsz hA hZ hS
  have hmr := gm_rule
  have HK := Lib.hid hK
  clear hK
  obtain ⟨⟨b0, b1, b2, b3⟩, _⟩ := row4_at HZ.out
  rcases hz4 with ⟨rfl, rfl, rfl⟩ | hk | ⟨rfl, hk⟩ | ⟨rfl, rfl, hk⟩
  · obtain rfl : (1 : Int) = K := by rw [← HK.out]; rfl
    clear HK
    go_enter Tryz.func13, Tryz.ntmps13
    go_wp2
    rw [HW3.out]
    go_loopw [20] (fun i wr => ∃ (j : Nat) (mv' : Value), j ≤ J.length ∧ i = .int .i64 j ∧ Hid (Below w.heap.size w wr) ∧ Hid (w3.heap.size ≤ wr.heap.size) ∧
      Hid (wr.heap[w.heap.size]? = w3.heap[w.heap.size]?) ∧ Hid (wr.heap[w.heap.size + 1]? = w3.heap[w.heap.size + 1]?) ∧
      Hid (wr.heap[w.heap.size + 1 + 1]? = some (.cells (v4 mv' 1 0 0) 41 (0, 0))) ∧ Hid (OwnM w3.heap.size wr mv' (memsTo J R1 W j))) (fun i _ => J.length - (intOf i).toNat)
    case atStart => exact ⟨0, _, Nat.zero_le _, rfl, HB, Lib.hid (Nat.le_refl _), Lib.hid rfl, Lib.hid rfl, HS, HI0⟩
    case round =>
      obtain ⟨j, mv', hjl, rfl, hb, hs3, ha, hz, hsb, hom⟩ := hrel
      clear HI0 HS HB HW3 a0 a1 a2 a3 a4 a5 a6 a7 a8 b0 b1 b2 b3 s0 s1 s2 s3 f0 f1 f2 f3
      obtain ⟨am, lm, cm, hvm⟩ : ∃ a l c, mv' = .slice a l c := by obtain ⟨a, c, h, _⟩ := hom.out.rd.shape; exact ⟨a, _, c, h⟩
      subst hvm
      obtain ⟨⟨a0, a1, a2, a3, a4, a5, a6, a7, a8⟩, _⟩ := row9_at (ha.out.trans HA.out)
      obtain ⟨⟨s0, s1, s2, s3⟩, f0, f1, f2, f3⟩ := row4_at hsb.out
      by_cases hlt : j < J.length
      · obtain ⟨b, o, hi, hbb, c0⟩ := atI (HJ.out.below hb.out) j J[j] (List.getElem?_eq_getElem hlt)
        have hq : (j : Int) < (J.length : Int) := by omega
        have hg := Lib.hid (List.getElem?_eq_getElem hlt)
        generalize J[j] = x at c0 hg
        have hsr := HBS.out x wr hb.out
        have HSRC := Lib.hid hsr
        clear hsr
        go_wp2_with fail
        refine HSRC.out.mono ?_
        rintro e w' ⟨ix, rfl, hat, rfl⟩
        have hfk := fndK_lk HSR.out hat
        generalize fndK MM.kI R1 x ix = fd at hfk ⊢
        have hct : R1.contains x = fd := by
          cases fd
          · have h1 := hfk.2 rfl
            cases hcc : R1.contains x with
            | false => rfl
            | true =>
              have := MM.lk_mem MM.kI HSR.out (List.contains_iff_mem.1 hcc)
              rw [show MM.kI x = x from rfl, h1] at this
              cases this
          · obtain ⟨e, h1, h2⟩ := hfk.1.1 rfl
            have := MM.lk_some MM.kI h2
            rw [show x = e from this.2.symm]
            exact List.contains_iff_mem.2 this.1
        clear hfk hat
        cases fd
        · have HME := Lib.hid (memsTo_out (W := W) hg.out hct)
          have HWC := Lib.hid (HWO.out x)
          have HLN := Lib.hid (show (memsTo J R1 W j).length ≤ 1073741824 by have := memsTo_len J R1 W j; have := HL.out; omega)
          generalize hwt : MM.wtOf W x = wt at HME HWC
          have HD := Lib.hid (show Below w.heap.size w w'.drew from hb.out.drew)
          have HS3 := Lib.hid (show w3.heap.size ≤ w'.drew.heap.size from hs3.out)
          have HA3 := Lib.hid (show w'.drew.heap[w.heap.size]? = w3.heap[w.heap.size]? from ha.out)
          have HZ3 := Lib.hid (show w'.drew.heap[w.heap.size + 1]? = w3.heap[w.heap.size + 1]? from hz.out)
          have HSB3 := Lib.hid (show w'.drew.heap[w.heap.size + 1 + 1]? = some (.cells (v4 (.slice am lm cm) 1 0 0) 41 (0, 0)) from hsb.out)
          have HOM3 := Lib.hid (show OwnM w3.heap.size w'.drew (.slice am lm cm) (memsTo J R1 W j) from hom.out)
          clear hwt hct hb hs3 ha hz hsb hom
          go_wp2
          go_region_law (first
            | (go_simp; go_at_call 32; refine (HWC.out w'.drew HD.out).mono ?_; rintro e w5 ⟨rfl, hb5⟩; obtain ⟨⟨p0, p1, p2, p3⟩, _⟩ := row4_at (below_block HSB3.out hb5); obtain ⟨⟨q0, q1, q2, q3, q4, q5, q6, q7, q8⟩, _⟩ := row9_at (below_block (HA3.out.trans HA.out) hb5); have HSB5 := Lib.hid (below_block HSB3.out hb5); have HOM5 := Lib.hid (HOM3.out.below hb5); have HS5 := Lib.hid (Nat.le_trans HS3.out hb5.size); have hs5 := HS5.out; have HD5 := Lib.hid (bnext HD.out hb5); have HB5 := Lib.hid hb5; obtain ⟨⟨pp0, pp1, pp2, pp3⟩, _⟩ := row4_at (below_block HSB5.out (below_fresh w5 (.cells #[.int .i64 x, .int .i64 wt] 48))); clear hb5)
            | (refine step_appG1 memE (x, wt) rfl _ _ rfl rfl HOM5.out rfl HLN.out hs5 ?_; intro v6 w6 ho6 hb6 hk6; obtain ⟨av6, lv6, cv6, hv6⟩ : ∃ a l c, v6 = .slice a l c := (by obtain ⟨a, c, h, _⟩ := ho6.rd.shape; exact ⟨a, _, c, h⟩); subst hv6; have hsb6 := blk_keep hb6 (by have := HSZ.out; omega) HSB5.out; obtain ⟨⟨r0, r1, r2, r3⟩, g0, g1, g2, g3⟩ := row4_at hsb6; have HSB6 := Lib.hid hsb6; clear hsb6))
          all_goals
            have hsb6 := HSB6.out
            have hs7 : (w6.setCell ⟨w.heap.size + 1 + 1, 0, none⟩ (.slice av6 lv6 cv6)).heap[w.heap.size + 1 + 1]? = some (.cells (v4 (.slice av6 lv6 cv6) 1 0 0) 41 (0, 0)) := heap_setCell_same w6 _ 0 _ _ _ hsb6
            have ho7 : Only (w.heap.size + 1 + 1) w6 (w6.setCell ⟨w.heap.size + 1 + 1, 0, none⟩ (.slice av6 lv6 cv6)) := Only.set 0 _
            have HS7 := Lib.hid hs7
            have HOM7 := Lib.hid (show OwnM w3.heap.size (w6.setCell ⟨w.heap.size + 1 + 1, 0, none⟩ (.slice av6 lv6 cv6)) (.slice av6 lv6 cv6) (memsTo J R1 W (j + 1)) by rw [HME.out]; exact ownG_only ho6 hsb6 (by decide) ho7)
            have HA7 := Lib.hid (ho7.at (blk_keep hb6 (by have := HSZ.out; omega) (below_block (HA3.out.trans HA.out) HB5.out)) (by omega))
            have HZ7 := Lib.hid (ho7.at (blk_keep hb6 (by have := HSZ.out; omega) (below_block (HZ3.out.trans HZ.out) HB5.out)) (by omega))
            have hb67 : Below w.heap.size w w6 := HD5.out.trans (hb6.mono (by have := HSZ.out; omega))
            have HB7 := Lib.hid (hb67.trans (ho7.below (by omega) hb67.size))
            have HG7 := Lib.hid (Nat.le_trans (Nat.le_trans HS5.out hb6.size) ho7.size)
            clear hsb6 hs7 ho7 hb67 ho6 hb6 hk6 r0 r1 r2 r3 g0 g1 g2 g3 HSB6 HSB5 HOM5 HS5 HD5 HB5 HSB3 HOM3 HA3 HZ3 HS3 HD hs5
            generalize w6.setCell ⟨w.heap.size + 1 + 1, 0, none⟩ (.slice av6 lv6 cv6) = w7 at HS7 HOM7 HA7 HZ7 HB7 HG7 ⊢
            go_wp2
            go_roundw
            case rel => exact ⟨j + 1, _, by omega, by go_num, HB7, HG7, Lib.hid (HA7.out.trans HA.out.symm), Lib.hid (HZ7.out.trans HZ.out.symm), HS7, HOM7⟩
            case measure => simp [intOf]; omega
        · have HME := Lib.hid (memsTo_in (W := W) hg.out hct)
          clear hct
          go_wp2
          go_roundw
          case rel => exact ⟨j + 1, _, by omega, by go_num, hb, hs3, ha, hz, hsb, by rw [HME.out]; exact hom⟩
          case measure => simp [intOf]; omega
      · have hq : ¬ ((j : Int) < (J.length : Int)) := by omega
        have hje : j = J.length := by omega
        have hz0 := hz.out.trans HZ.out
        obtain ⟨⟨b0, b1, b2, b3⟩, g0, g1, g2, g3⟩ := row4_at hz0
        go_wp2
        have hp := row4_put hz0 (.slice am lm cm) (.int .i64 1) (.int .i64 0) (.int .i64 0) w.heap.size (by omega)
        have hon := onlyc4 (w := wr) (g := w.heap.size + 1) (.slice am lm cm) (.int .i64 1) (.int .i64 0) (.int .i64 0)
        refine view_ret rfl hp.1 rfl ⟨_, rfl, ?_, hb.out.trans hp.2⟩
        rw [← hje]
        exact (ownG_only hom.out hz0 (by decide) hon).rd
  · obtain rfl : k = K := by rw [← HK.out, if_neg (by simp [hk])]
    clear HK
    go_enter Tryz.func13, Tryz.ntmps13
    go_wp2
    rw [HW3.out]
    go_loopw [20] (fun i wr => ∃ (j : Nat) (mv' : Value), j ≤ J.length ∧ i = .int .i64 j ∧ Hid (Below w.heap.size w wr) ∧ Hid (w3.heap.size ≤ wr.heap.size) ∧
      Hid (wr.heap[w.heap.size]? = w3.heap[w.heap.size]?) ∧ Hid (wr.heap[w.heap.size + 1]? = w3.heap[w.heap.size + 1]?) ∧
      Hid (wr.heap[w.heap.size + 1 + 1]? = some (.cells (v4 mv' k c f) 41 (0, 0))) ∧ Hid (OwnM w3.heap.size wr mv' (memsTo J R1 W j))) (fun i _ => J.length - (intOf i).toNat)
    case atStart => exact ⟨0, _, Nat.zero_le _, rfl, HB, Lib.hid (Nat.le_refl _), Lib.hid rfl, Lib.hid rfl, HS, HI0⟩
    case round =>
      obtain ⟨j, mv', hjl, rfl, hb, hs3, ha, hz, hsb, hom⟩ := hrel
      clear HI0 HS HB HW3 a0 a1 a2 a3 a4 a5 a6 a7 a8 b0 b1 b2 b3 s0 s1 s2 s3 f0 f1 f2 f3
      obtain ⟨am, lm, cm, hvm⟩ : ∃ a l c, mv' = .slice a l c := by obtain ⟨a, c, h, _⟩ := hom.out.rd.shape; exact ⟨a, _, c, h⟩
      subst hvm
      obtain ⟨⟨a0, a1, a2, a3, a4, a5, a6, a7, a8⟩, _⟩ := row9_at (ha.out.trans HA.out)
      obtain ⟨⟨s0, s1, s2, s3⟩, f0, f1, f2, f3⟩ := row4_at hsb.out
      by_cases hlt : j < J.length
      · obtain ⟨b, o, hi, hbb, c0⟩ := atI (HJ.out.below hb.out) j J[j] (List.getElem?_eq_getElem hlt)
        have hq : (j : Int) < (J.length : Int) := by omega
        have hg := Lib.hid (List.getElem?_eq_getElem hlt)
        generalize J[j] = x at c0 hg
        have hsr := HBS.out x wr hb.out
        have HSRC := Lib.hid hsr
        clear hsr
        go_wp2_with fail
        refine HSRC.out.mono ?_
        rintro e w' ⟨ix, rfl, hat, rfl⟩
        have hfk := fndK_lk HSR.out hat
        generalize fndK MM.kI R1 x ix = fd at hfk ⊢
        have hct : R1.contains x = fd := by
          cases fd
          · have h1 := hfk.2 rfl
            cases hcc : R1.contains x with
            | false => rfl
            | true =>
              have := MM.lk_mem MM.kI HSR.out (List.contains_iff_mem.1 hcc)
              rw [show MM.kI x = x from rfl, h1] at this
              cases this
          · obtain ⟨e, h1, h2⟩ := hfk.1.1 rfl
            have := MM.lk_some MM.kI h2
            rw [show x = e from this.2.symm]
            exact List.contains_iff_mem.2 this.1
        clear hfk hat
        cases fd
        · have HME := Lib.hid (memsTo_out (W := W) hg.out hct)
          have HWC := Lib.hid (HWO.out x)
          have HLN := Lib.hid (show (memsTo J R1 W j).length ≤ 1073741824 by have := memsTo_len J R1 W j; have := HL.out; omega)
          generalize hwt : MM.wtOf W x = wt at HME HWC
          have HD := Lib.hid (show Below w.heap.size w w'.drew from hb.out.drew)
          have HS3 := Lib.hid (show w3.heap.size ≤ w'.drew.heap.size from hs3.out)
          have HA3 := Lib.hid (show w'.drew.heap[w.heap.size]? = w3.heap[w.heap.size]? from ha.out)
          have HZ3 := Lib.hid (show w'.drew.heap[w.heap.size + 1]? = w3.heap[w.heap.size + 1]? from hz.out)
          have HSB3 := Lib.hid (show w'.drew.heap[w.heap.size + 1 + 1]? = some (.cells (v4 (.slice am lm cm) k c f) 41 (0, 0)) from hsb.out)
          have HOM3 := Lib.hid (show OwnM w3.heap.size w'.drew (.slice am lm cm) (memsTo J R1 W j) from hom.out)
          clear hwt hct hb hs3 ha hz hsb hom
          go_wp2
          go_region_law (first
            | (go_simp; go_at_call 32; refine (HWC.out w'.drew HD.out).mono ?_; rintro e w5 ⟨rfl, hb5⟩; obtain ⟨⟨p0, p1, p2, p3⟩, _⟩ := row4_at (below_block HSB3.out hb5); obtain ⟨⟨q0, q1, q2, q3, q4, q5, q6, q7, q8⟩, _⟩ := row9_at (below_block (HA3.out.trans HA.out) hb5); have HSB5 := Lib.hid (below_block HSB3.out hb5); have HOM5 := Lib.hid (HOM3.out.below hb5); have HS5 := Lib.hid (Nat.le_trans HS3.out hb5.size); have hs5 := HS5.out; have HD5 := Lib.hid (bnext HD.out hb5); have HB5 := Lib.hid hb5; obtain ⟨⟨pp0, pp1, pp2, pp3⟩, _⟩ := row4_at (below_block HSB5.out (below_fresh w5 (.cells #[.int .i64 x, .int .i64 wt] 48))); clear hb5)
            | (refine step_appG1 memE (x, wt) rfl _ _ rfl rfl HOM5.out rfl HLN.out hs5 ?_; intro v6 w6 ho6 hb6 hk6; obtain ⟨av6, lv6, cv6, hv6⟩ : ∃ a l c, v6 = .slice a l c := (by obtain ⟨a, c, h, _⟩ := ho6.rd.shape; exact ⟨a, _, c, h⟩); subst hv6; have hsb6 := blk_keep hb6 (by have := HSZ.out; omega) HSB5.out; obtain ⟨⟨r0, r1, r2, r3⟩, g0, g1, g2, g3⟩ := row4_at hsb6; have HSB6 := Lib.hid hsb6; clear hsb6))
          all_goals
            have hsb6 := HSB6.out
            have hs7 : (w6.setCell ⟨w.heap.size + 1 + 1, 0, none⟩ (.slice av6 lv6 cv6)).heap[w.heap.size + 1 + 1]? = some (.cells (v4 (.slice av6 lv6 cv6) k c f) 41 (0, 0)) := heap_setCell_same w6 _ 0 _ _ _ hsb6
            have ho7 : Only (w.heap.size + 1 + 1) w6 (w6.setCell ⟨w.heap.size + 1 + 1, 0, none⟩ (.slice av6 lv6 cv6)) := Only.set 0 _
            have HS7 := Lib.hid hs7
            have HOM7 := Lib.hid (show OwnM w3.heap.size (w6.setCell ⟨w.heap.size + 1 + 1, 0, none⟩ (.slice av6 lv6 cv6)) (.slice av6 lv6 cv6) (memsTo J R1 W (j + 1)) by rw [HME.out]; exact ownG_only ho6 hsb6 (by decide) ho7)
            have HA7 := Lib.hid (ho7.at (blk_keep hb6 (by have := HSZ.out; omega) (below_block (HA3.out.trans HA.out) HB5.out)) (by omega))
            have HZ7 := Lib.hid (ho7.at (blk_keep hb6 (by have := HSZ.out; omega) (below_block (HZ3.out.trans HZ.out) HB5.out)) (by omega))
            have hb67 : Below w.heap.size w w6 := HD5.out.trans (hb6.mono (by have := HSZ.out; omega))
            have HB7 := Lib.hid (hb67.trans (ho7.below (by omega) hb67.size))
            have HG7 := Lib.hid (Nat.le_trans (Nat.le_trans HS5.out hb6.size) ho7.size)
            clear hsb6 hs7 ho7 hb67 ho6 hb6 hk6 r0 r1 r2 r3 g0 g1 g2 g3 HSB6 HSB5 HOM5 HS5 HD5 HB5 HSB3 HOM3 HA3 HZ3 HS3 HD hs5
            generalize w6.setCell ⟨w.heap.size + 1 + 1, 0, none⟩ (.slice av6 lv6 cv6) = w7 at HS7 HOM7 HA7 HZ7 HB7 HG7 ⊢
            go_wp2
            go_roundw
            case rel => exact ⟨j + 1, _, by omega, by go_num, HB7, HG7, Lib.hid (HA7.out.trans HA.out.symm), Lib.hid (HZ7.out.trans HZ.out.symm), HS7, HOM7⟩
            case measure => simp [intOf]; omega
        · have HME := Lib.hid (memsTo_in (W := W) hg.out hct)
          clear hct
          go_wp2
          go_roundw
          case rel => exact ⟨j + 1, _, by omega, by go_num, hb, hs3, ha, hz, hsb, by rw [HME.out]; exact hom⟩
          case measure => simp [intOf]; omega
      · have hq : ¬ ((j : Int) < (J.length : Int)) := by omega
        have hje : j = J.length := by omega
        have hz0 := hz.out.trans HZ.out
        obtain ⟨⟨b0, b1, b2, b3⟩, g0, g1, g2, g3⟩ := row4_at hz0
        go_wp2
        have hp := row4_put hz0 (.slice am lm cm) (.int .i64 k) (.int .i64 c) (.int .i64 f) w.heap.size (by omega)
        have hon := onlyc4 (w := wr) (g := w.heap.size + 1) (.slice am lm cm) (.int .i64 k) (.int .i64 c) (.int .i64 f)
        refine view_ret rfl hp.1 rfl ⟨_, rfl, ?_, hb.out.trans hp.2⟩
        rw [← hje]
        exact (ownG_only hom.out hz0 (by decide) hon).rd
  · obtain rfl : (0 : Int) = K := by rw [← HK.out, if_neg (by simp [hk])]
    clear HK
    go_enter Tryz.func13, Tryz.ntmps13
    go_wp2
    rw [HW3.out]
    go_loopw [20] (fun i wr => ∃ (j : Nat) (mv' : Value), j ≤ J.length ∧ i = .int .i64 j ∧ Hid (Below w.heap.size w wr) ∧ Hid (w3.heap.size ≤ wr.heap.size) ∧
      Hid (wr.heap[w.heap.size]? = w3.heap[w.heap.size]?) ∧ Hid (wr.heap[w.heap.size + 1]? = w3.heap[w.heap.size + 1]?) ∧
      Hid (wr.heap[w.heap.size + 1 + 1]? = some (.cells (v4 mv' 0 c f) 41 (0, 0))) ∧ Hid (OwnM w3.heap.size wr mv' (memsTo J R1 W j))) (fun i _ => J.length - (intOf i).toNat)
    case atStart => exact ⟨0, _, Nat.zero_le _, rfl, HB, Lib.hid (Nat.le_refl _), Lib.hid rfl, Lib.hid rfl, HS, HI0⟩
    case round =>
      obtain ⟨j, mv', hjl, rfl, hb, hs3, ha, hz, hsb, hom⟩ := hrel
      clear HI0 HS HB HW3 a0 a1 a2 a3 a4 a5 a6 a7 a8 b0 b1 b2 b3 s0 s1 s2 s3 f0 f1 f2 f3
      obtain ⟨am, lm, cm, hvm⟩ : ∃ a l c, mv' = .slice a l c := by obtain ⟨a, c, h, _⟩ := hom.out.rd.shape; exact ⟨a, _, c, h⟩
      subst hvm
      obtain ⟨⟨a0, a1, a2, a3, a4, a5, a6, a7, a8⟩, _⟩ := row9_at (ha.out.trans HA.out)
      obtain ⟨⟨s0, s1, s2, s3⟩, f0, f1, f2, f3⟩ := row4_at hsb.out
      by_cases hlt : j < J.length
      · obtain ⟨b, o, hi, hbb, c0⟩ := atI (HJ.out.below hb.out) j J[j] (List.getElem?_eq_getElem hlt)
        have hq : (j : Int) < (J.length : Int) := by omega
        have hg := Lib.hid (List.getElem?_eq_getElem hlt)
        generalize J[j] = x at c0 hg
        have hsr := HBS.out x wr hb.out
        have HSRC := Lib.hid hsr
        clear hsr
        go_wp2_with fail
        refine HSRC.out.mono ?_
        rintro e w' ⟨ix, rfl, hat, rfl⟩
        have hfk := fndK_lk HSR.out hat
        generalize fndK MM.kI R1 x ix = fd at hfk ⊢
        have hct : R1.contains x = fd := by
          cases fd
          · have h1 := hfk.2 rfl
            cases hcc : R1.contains x with
            | false => rfl
            | true =>
              have := MM.lk_mem MM.kI HSR.out (List.contains_iff_mem.1 hcc)
              rw [show MM.kI x = x from rfl, h1] at this
              cases this
          · obtain ⟨e, h1, h2⟩ := hfk.1.1 rfl
            have := MM.lk_some MM.kI h2
            rw [show x = e from this.2.symm]
            exact List.contains_iff_mem.2 this.1
        clear hfk hat
        cases fd
        · have HME := Lib.hid (memsTo_out (W := W) hg.out hct)
          have HWC := Lib.hid (HWO.out x)
          have HLN := Lib.hid (show (memsTo J R1 W j).length ≤ 1073741824 by have := memsTo_len J R1 W j; have := HL.out; omega)
          generalize hwt : MM.wtOf W x = wt at HME HWC
          have HD := Lib.hid (show Below w.heap.size w w'.drew from hb.out.drew)
          have HS3 := Lib.hid (show w3.heap.size ≤ w'.drew.heap.size from hs3.out)
          have HA3 := Lib.hid (show w'.drew.heap[w.heap.size]? = w3.heap[w.heap.size]? from ha.out)
          have HZ3 := Lib.hid (show w'.drew.heap[w.heap.size + 1]? = w3.heap[w.heap.size + 1]? from hz.out)
          have HSB3 := Lib.hid (show w'.drew.heap[w.heap.size + 1 + 1]? = some (.cells (v4 (.slice am lm cm) 0 c f) 41 (0, 0)) from hsb.out)
          have HOM3 := Lib.hid (show OwnM w3.heap.size w'.drew (.slice am lm cm) (memsTo J R1 W j) from hom.out)
          clear hwt hct hb hs3 ha hz hsb hom
          go_wp2
          go_region_law (first
            | (go_simp; go_at_call 32; refine (HWC.out w'.drew HD.out).mono ?_; rintro e w5 ⟨rfl, hb5⟩; obtain ⟨⟨p0, p1, p2, p3⟩, _⟩ := row4_at (below_block HSB3.out hb5); obtain ⟨⟨q0, q1, q2, q3, q4, q5, q6, q7, q8⟩, _⟩ := row9_at (below_block (HA3.out.trans HA.out) hb5); have HSB5 := Lib.hid (below_block HSB3.out hb5); have HOM5 := Lib.hid (HOM3.out.below hb5); have HS5 := Lib.hid (Nat.le_trans HS3.out hb5.size); have hs5 := HS5.out; have HD5 := Lib.hid (bnext HD.out hb5); have HB5 := Lib.hid hb5; obtain ⟨⟨pp0, pp1, pp2, pp3⟩, _⟩ := row4_at (below_block HSB5.out (below_fresh w5 (.cells #[.int .i64 x, .int .i64 wt] 48))); clear hb5)
            | (refine step_appG1 memE (x, wt) rfl _ _ rfl rfl HOM5.out rfl HLN.out hs5 ?_; intro v6 w6 ho6 hb6 hk6; obtain ⟨av6, lv6, cv6, hv6⟩ : ∃ a l c, v6 = .slice a l c := (by obtain ⟨a, c, h, _⟩ := ho6.rd.shape; exact ⟨a, _, c, h⟩); subst hv6; have hsb6 := blk_keep hb6 (by have := HSZ.out; omega) HSB5.out; obtain ⟨⟨r0, r1, r2, r3⟩, g0, g1, g2, g3⟩ := row4_at hsb6; have HSB6 := Lib.hid hsb6; clear hsb6))
          all_goals
            have hsb6 := HSB6.out
            have hs7 : (w6.setCell ⟨w.heap.size + 1 + 1, 0, none⟩ (.slice av6 lv6 cv6)).heap[w.heap.size + 1 + 1]? = some (.cells (v4 (.slice av6 lv6 cv6) 0 c f) 41 (0, 0)) := heap_setCell_same w6 _ 0 _ _ _ hsb6
            have ho7 : Only (w.heap.size + 1 + 1) w6 (w6.setCell ⟨w.heap.size + 1 + 1, 0, none⟩ (.slice av6 lv6 cv6)) := Only.set 0 _
            have HS7 := Lib.hid hs7
            have HOM7 := Lib.hid (show OwnM w3.heap.size (w6.setCell ⟨w.heap.size + 1 + 1, 0, none⟩ (.slice av6 lv6 cv6)) (.slice av6 lv6 cv6) (memsTo J R1 W (j + 1)) by rw [HME.out]; exact ownG_only ho6 hsb6 (by decide) ho7)
            have HA7 := Lib.hid (ho7.at (blk_keep hb6 (by have := HSZ.out; omega) (below_block (HA3.out.trans HA.out) HB5.out)) (by omega))
            have HZ7 := Lib.hid (ho7.at (blk_keep hb6 (by have := HSZ.out; omega) (below_block (HZ3.out.trans HZ.out) HB5.out)) (by omega))
            have hb67 : Below w.heap.size w w6 := HD5.out.trans (hb6.mono (by have := HSZ.out; omega))
            have HB7 := Lib.hid (hb67.trans (ho7.below (by omega) hb67.size))
            have HG7 := Lib.hid (Nat.le_trans (Nat.le_trans HS5.out hb6.size) ho7.size)
            clear hsb6 hs7 ho7 hb67 ho6 hb6 hk6 r0 r1 r2 r3 g0 g1 g2 g3 HSB6 HSB5 HOM5 HS5 HD5 HB5 HSB3 HOM3 HA3 HZ3 HS3 HD hs5
            generalize w6.setCell ⟨w.heap.size + 1 + 1, 0, none⟩ (.slice av6 lv6 cv6) = w7 at HS7 HOM7 HA7 HZ7 HB7 HG7 ⊢
            go_wp2
            go_roundw
            case rel => exact ⟨j + 1, _, by omega, by go_num, HB7, HG7, Lib.hid (HA7.out.trans HA.out.symm), Lib.hid (HZ7.out.trans HZ.out.symm), HS7, HOM7⟩
            case measure => simp [intOf]; omega
        · have HME := Lib.hid (memsTo_in (W := W) hg.out hct)
          clear hct
          go_wp2
          go_roundw
          case rel => exact ⟨j + 1, _, by omega, by go_num, hb, hs3, ha, hz, hsb, by rw [HME.out]; exact hom⟩
          case measure => simp [intOf]; omega
      · have hq : ¬ ((j : Int) < (J.length : Int)) := by omega
        have hje : j = J.length := by omega
        have hz0 := hz.out.trans HZ.out
        obtain ⟨⟨b0, b1, b2, b3⟩, g0, g1, g2, g3⟩ := row4_at hz0
        go_wp2
        have hp := row4_put hz0 (.slice am lm cm) (.int .i64 0) (.int .i64 c) (.int .i64 f) w.heap.size (by omega)
        have hon := onlyc4 (w := wr) (g := w.heap.size + 1) (.slice am lm cm) (.int .i64 0) (.int .i64 c) (.int .i64 f)
        refine view_ret rfl hp.1 rfl ⟨_, rfl, ?_, hb.out.trans hp.2⟩
        rw [← hje]
        exact (ownG_only hom.out hz0 (by decide) hon).rd
  · obtain rfl : (0 : Int) = K := by rw [← HK.out, if_neg (by simp [hk])]
    clear HK
    go_enter Tryz.func13, Tryz.ntmps13
    go_wp2
    rw [HW3.out]
    go_loopw [20] (fun i wr => ∃ (j : Nat) (mv' : Value), j ≤ J.length ∧ i = .int .i64 j ∧ Hid (Below w.heap.size w wr) ∧ Hid (w3.heap.size ≤ wr.heap.size) ∧
      Hid (wr.heap[w.heap.size]? = w3.heap[w.heap.size]?) ∧ Hid (wr.heap[w.heap.size + 1]? = w3.heap[w.heap.size + 1]?) ∧
      Hid (wr.heap[w.heap.size + 1 + 1]? = some (.cells (v4 mv' 0 0 f) 41 (0, 0))) ∧ Hid (OwnM w3.heap.size wr mv' (memsTo J R1 W j))) (fun i _ => J.length - (intOf i).toNat)
    case atStart => exact ⟨0, _, Nat.zero_le _, rfl, HB, Lib.hid (Nat.le_refl _), Lib.hid rfl, Lib.hid rfl, HS, HI0⟩
    case round =>
      obtain ⟨j, mv', hjl, rfl, hb, hs3, ha, hz, hsb, hom⟩ := hrel
      clear HI0 HS HB HW3 a0 a1 a2 a3 a4 a5 a6 a7 a8 b0 b1 b2 b3 s0 s1 s2 s3 f0 f1 f2 f3
      obtain ⟨am, lm, cm, hvm⟩ : ∃ a l c, mv' = .slice a l c := by obtain ⟨a, c, h, _⟩ := hom.out.rd.shape; exact ⟨a, _, c, h⟩
      subst hvm
      obtain ⟨⟨a0, a1, a2, a3, a4, a5, a6, a7, a8⟩, _⟩ := row9_at (ha.out.trans HA.out)
      obtain ⟨⟨s0, s1, s2, s3⟩, f0, f1, f2, f3⟩ := row4_at hsb.out
      by_cases hlt : j < J.length
      · obtain ⟨b, o, hi, hbb, c0⟩ := atI (HJ.out.below hb.out) j J[j] (List.getElem?_eq_getElem hlt)
        have hq : (j : Int) < (J.length : Int) := by omega
        have hg := Lib.hid (List.getElem?_eq_getElem hlt)
        generalize J[j] = x at c0 hg
        have hsr := HBS.out x wr hb.out
        have HSRC := Lib.hid hsr
        clear hsr
        go_wp2_with fail
        refine HSRC.out.mono ?_
        rintro e w' ⟨ix, rfl, hat, rfl⟩
        have hfk := fndK_lk HSR.out hat
        generalize fndK MM.kI R1 x ix = fd at hfk ⊢
        have hct : R1.contains x = fd := by
          cases fd
          · have h1 := hfk.2 rfl
            cases hcc : R1.contains x with
            | false => rfl
            | true =>
              have := MM.lk_mem MM.kI HSR.out (List.contains_iff_mem.1 hcc)
              rw [show MM.kI x = x from rfl, h1] at this
              cases this
          · obtain ⟨e, h1, h2⟩ := hfk.1.1 rfl
            have := MM.lk_some MM.kI h2
            rw [show x = e from this.2.symm]
            exact List.contains_iff_mem.2 this.1
        clear hfk hat
        cases fd
        · have HME := Lib.hid (memsTo_out (W := W) hg.out hct)
          have HWC := Lib.hid (HWO.out x)
          have HLN := Lib.hid (show (memsTo J R1 W j).length ≤ 1073741824 by have := memsTo_len J R1 W j; have := HL.out; omega)
          generalize hwt : MM.wtOf W x = wt at HME HWC
          have HD := Lib.hid (show Below w.heap.size w w'.drew from hb.out.drew)
          have HS3 := Lib.hid (show w3.heap.size ≤ w'.drew.heap.size from hs3.out)
          have HA3 := Lib.hid (show w'.drew.heap[w.heap.size]? = w3.heap[w.heap.size]? from ha.out)
          have HZ3 := Lib.hid (show w'.drew.heap[w.heap.size + 1]? = w3.heap[w.heap.size + 1]? from hz.out)
          have HSB3 := Lib.hid (show w'.drew.heap[w.heap.size + 1 + 1]? = some (.cells (v4 (.slice am lm cm) 0 0 f) 41 (0, 0)) from hsb.out)
          have HOM3 := Lib.hid (show OwnM w3.heap.size w'.drew (.slice am lm cm) (memsTo J R1 W j) from hom.out)
          clear hwt hct hb hs3 ha hz hsb hom
          go_wp2
          go_region_law (first
            | (go_simp; go_at_call 32; refine (HWC.out w'.drew HD.out).mono ?_; rintro e w5 ⟨rfl, hb5⟩; obtain ⟨⟨p0, p1, p2, p3⟩, _⟩ := row4_at (below_block HSB3.out hb5); obtain ⟨⟨q0, q1, q2, q3, q4, q5, q6, q7, q8⟩, _⟩ := row9_at (below_block (HA3.out.trans HA.out) hb5); have HSB5 := Lib.hid (below_block HSB3.out hb5); have HOM5 := Lib.hid (HOM3.out.below hb5); have HS5 := Lib.hid (Nat.le_trans HS3.out hb5.size); have hs5 := HS5.out; have HD5 := Lib.hid (bnext HD.out hb5); have HB5 := Lib.hid hb5; obtain ⟨⟨pp0, pp1, pp2, pp3⟩, _⟩ := row4_at (below_block HSB5.out (below_fresh w5 (.cells #[.int .i64 x, .int .i64 wt] 48))); clear hb5)
            | (refine step_appG1 memE (x, wt) rfl _ _ rfl rfl HOM5.out rfl HLN.out hs5 ?_; intro v6 w6 ho6 hb6 hk6; obtain ⟨av6, lv6, cv6, hv6⟩ : ∃ a l c, v6 = .slice a l c := (by obtain ⟨a, c, h, _⟩ := ho6.rd.shape; exact ⟨a, _, c, h⟩); subst hv6; have hsb6 := blk_keep hb6 (by have := HSZ.out; omega) HSB5.out; obtain ⟨⟨r0, r1, r2, r3⟩, g0, g1, g2, g3⟩ := row4_at hsb6; have HSB6 := Lib.hid hsb6; clear hsb6))
          all_goals
            have hsb6 := HSB6.out
            have hs7 : (w6.setCell ⟨w.heap.size + 1 + 1, 0, none⟩ (.slice av6 lv6 cv6)).heap[w.heap.size + 1 + 1]? = some (.cells (v4 (.slice av6 lv6 cv6) 0 0 f) 41 (0, 0)) := heap_setCell_same w6 _ 0 _ _ _ hsb6
            have ho7 : Only (w.heap.size + 1 + 1) w6 (w6.setCell ⟨w.heap.size + 1 + 1, 0, none⟩ (.slice av6 lv6 cv6)) := Only.set 0 _
            have HS7 := Lib.hid hs7
            have HOM7 := Lib.hid (show OwnM w3.heap.size (w6.setCell ⟨w.heap.size + 1 + 1, 0, none⟩ (.slice av6 lv6 cv6)) (.slice av6 lv6 cv6) (memsTo J R1 W (j + 1)) by rw [HME.out]; exact ownG_only ho6 hsb6 (by decide) ho7)
            have HA7 := Lib.hid (ho7.at (blk_keep hb6 (by have := HSZ.out; omega) (below_block (HA3.out.trans HA.out) HB5.out)) (by omega))
            have HZ7 := Lib.hid (ho7.at (blk_keep hb6 (by have := HSZ.out; omega) (below_block (HZ3.out.trans HZ.out) HB5.out)) (by omega))
            have hb67 : Below w.heap.size w w6 := HD5.out.trans (hb6.mono (by have := HSZ.out; omega))
            have HB7 := Lib.hid (hb67.trans (ho7.below (by omega) hb67.size))
            have HG7 := Lib.hid (Nat.le_trans (Nat.le_trans HS5.out hb6.size) ho7.size)
            clear hsb6 hs7 ho7 hb67 ho6 hb6 hk6 r0 r1 r2 r3 g0 g1 g2 g3 HSB6 HSB5 HOM5 HS5 HD5 HB5 HSB3 HOM3 HA3 HZ3 HS3 HD hs5
            generalize w6.setCell ⟨w.heap.size + 1 + 1, 0, none⟩ (.slice av6 lv6 cv6) = w7 at HS7 HOM7 HA7 HZ7 HB7 HG7 ⊢
            go_wp2
            go_roundw
            case rel => exact ⟨j + 1, _, by omega, by go_num, HB7, HG7, Lib.hid (HA7.out.trans HA.out.symm), Lib.hid (HZ7.out.trans HZ.out.symm), HS7, HOM7⟩
            case measure => simp [intOf]; omega
        · have HME := Lib.hid (memsTo_in (W := W) hg.out hct)
          clear hct
          go_wp2
          go_roundw
          case rel => exact ⟨j + 1, _, by omega, by go_num, hb, hs3, ha, hz, hsb, by rw [HME.out]; exact hom⟩
          case measure => simp [intOf]; omega
      · have hq : ¬ ((j : Int) < (J.length : Int)) := by omega
        have hje : j = J.length := by omega
        have hz0 := hz.out.trans HZ.out
        obtain ⟨⟨b0, b1, b2, b3⟩, g0, g1, g2, g3⟩ := row4_at hz0
        go_wp2
        have hp := row4_put hz0 (.slice am lm cm) (.int .i64 0) (.int .i64 0) (.int .i64 f) w.heap.size (by omega)
        have hon := onlyc4 (w := wr) (g := w.heap.size + 1) (.slice am lm cm) (.int .i64 0) (.int .i64 0) (.int .i64 f)
        refine view_ret rfl hp.1 rfl ⟨_, rfl, ?_, hb.out.trans hp.2⟩
        rw [← hje]
        exact (ownG_only hom.out hz0 (by decide) hon).rd

end Go.Proofs.YtkaafbdhgekeeaaGreat
