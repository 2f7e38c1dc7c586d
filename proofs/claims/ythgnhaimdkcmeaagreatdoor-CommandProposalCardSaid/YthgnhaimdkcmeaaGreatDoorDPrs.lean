/-
  The calls of command.validate, ruleChange and Parse: what DM.prs gives. Conditions: the library's variables hold what they are laid with; the line has at most a million bytes.
-/
import Derived.Test.YthgnhaimdkcmeaaGreatDoorDSplit
import Derived.Test.YthgnhaimdkcmeaaGreatDoorGB
namespace Go.Proofs.YthgnhaimdkcmeaaGreatDoor
open Go.RowKit Go.Joins
open JM (Chg)
open MM (Mem Ent Sm Tri)

theorem row7_atF {w : World} {g : Nat} {t : TypeId} {a0 a1 a2 a3 a4 a5 a6 : Value} (h : w.heap[g]? = some (.cells #[a0, a1, a2, a3, a4, a5, a6] t (0, 0))) :
    (w.cell? ⟨g, 0, none⟩ = some a0 ∧ w.cell? ⟨g, 1, none⟩ = some a1 ∧ w.cell? ⟨g, 2, none⟩ = some a2 ∧ w.cell? ⟨g, 3, none⟩ = some a3 ∧ w.cell? ⟨g, 4, none⟩ = some a4 ∧ w.cell? ⟨g, 5, none⟩ = some a5 ∧ w.cell? ⟨g, 6, none⟩ = some a6) ∧ (w.frozen? ⟨g, 0, none⟩ = false ∧ w.frozen? ⟨g, 1, none⟩ = false ∧ w.frozen? ⟨g, 2, none⟩ = false ∧ w.frozen? ⟨g, 3, none⟩ = false ∧ w.frozen? ⟨g, 4, none⟩ = false ∧ w.frozen? ⟨g, 5, none⟩ = false ∧ w.frozen? ⟨g, 6, none⟩ = false) := by
  refine ⟨⟨?_, ?_, ?_, ?_, ?_, ?_, ?_⟩, ⟨?_, ?_, ?_, ?_, ?_, ?_, ?_⟩⟩
  all_goals first | (simp [World.cell?, h]; done) | (simp [World.frozen?, h]; done)
theorem row7_putO {w : World} {g : Nat} {t : TypeId} {a0 a1 a2 a3 a4 a5 a6 : Value} (h : w.heap[g]? = some (.cells #[a0, a1, a2, a3, a4, a5, a6] t (0, 0))) (b0 b1 b2 b3 b4 b5 b6 : Value) :
    (((((((w.setCell ⟨g, 0, none⟩ b0).setCell ⟨g, 1, none⟩ b1).setCell ⟨g, 2, none⟩ b2).setCell ⟨g, 3, none⟩ b3).setCell ⟨g, 4, none⟩ b4).setCell ⟨g, 5, none⟩ b5).setCell ⟨g, 6, none⟩ b6).heap[g]? = some (.cells #[b0, b1, b2, b3, b4, b5, b6] t (0, 0)) ∧ Only g w (((((((w.setCell ⟨g, 0, none⟩ b0).setCell ⟨g, 1, none⟩ b1).setCell ⟨g, 2, none⟩ b2).setCell ⟨g, 3, none⟩ b3).setCell ⟨g, 4, none⟩ b4).setCell ⟨g, 5, none⟩ b5).setCell ⟨g, 6, none⟩ b6) := by
  have o0 : Only g w w := Only.refl g w
  have h1 : (w.setCell ⟨g, 0, none⟩ b0).heap[g]? = some (.cells #[b0, a1, a2, a3, a4, a5, a6] t (0, 0)) := heap_setCell_same w g 0 _ _ b0 h
  have o1 : Only g w (w.setCell ⟨g, 0, none⟩ b0) := o0.trans (Only.set 0 _)
  generalize w.setCell ⟨g, 0, none⟩ b0 = w1 at h1 o1 ⊢
  clear h o0
  have h2 : (w1.setCell ⟨g, 1, none⟩ b1).heap[g]? = some (.cells #[b0, b1, a2, a3, a4, a5, a6] t (0, 0)) := heap_setCell_same w1 g 1 _ _ b1 h1
  have o2 : Only g w (w1.setCell ⟨g, 1, none⟩ b1) := o1.trans (Only.set 1 _)
  generalize w1.setCell ⟨g, 1, none⟩ b1 = w2 at h2 o2 ⊢
  clear h1 o1
  have h3 : (w2.setCell ⟨g, 2, none⟩ b2).heap[g]? = some (.cells #[b0, b1, b2, a3, a4, a5, a6] t (0, 0)) := heap_setCell_same w2 g 2 _ _ b2 h2
  have o3 : Only g w (w2.setCell ⟨g, 2, none⟩ b2) := o2.trans (Only.set 2 _)
  generalize w2.setCell ⟨g, 2, none⟩ b2 = w3 at h3 o3 ⊢
  clear h2 o2
  have h4 : (w3.setCell ⟨g, 3, none⟩ b3).heap[g]? = some (.cells #[b0, b1, b2, b3, a4, a5, a6] t (0, 0)) := heap_setCell_same w3 g 3 _ _ b3 h3
  have o4 : Only g w (w3.setCell ⟨g, 3, none⟩ b3) := o3.trans (Only.set 3 _)
  generalize w3.setCell ⟨g, 3, none⟩ b3 = w4 at h4 o4 ⊢
  clear h3 o3
  have h5 : (w4.setCell ⟨g, 4, none⟩ b4).heap[g]? = some (.cells #[b0, b1, b2, b3, b4, a5, a6] t (0, 0)) := heap_setCell_same w4 g 4 _ _ b4 h4
  have o5 : Only g w (w4.setCell ⟨g, 4, none⟩ b4) := o4.trans (Only.set 4 _)
  generalize w4.setCell ⟨g, 4, none⟩ b4 = w5 at h5 o5 ⊢
  clear h4 o4
  have h6 : (w5.setCell ⟨g, 5, none⟩ b5).heap[g]? = some (.cells #[b0, b1, b2, b3, b4, b5, a6] t (0, 0)) := heap_setCell_same w5 g 5 _ _ b5 h5
  have o6 : Only g w (w5.setCell ⟨g, 5, none⟩ b5) := o5.trans (Only.set 5 _)
  generalize w5.setCell ⟨g, 5, none⟩ b5 = w6 at h6 o6 ⊢
  clear h5 o5
  have h7 : (w6.setCell ⟨g, 6, none⟩ b6).heap[g]? = some (.cells #[b0, b1, b2, b3, b4, b5, b6] t (0, 0)) := heap_setCell_same w6 g 6 _ _ b6 h6
  have o7 : Only g w (w6.setCell ⟨g, 6, none⟩ b6) := o6.trans (Only.set 6 _)
  clear h6 o6
  exact ⟨h7, o7⟩
theorem results_cell_tmp1 {P : Program} {fn : Func} {p u : Tmp} {ty : TypeId} (h : fn.results = #[.cell p ty, .tmp u]) (tmps : Array Value) (w : World) (g : Nat) (t : TypeId) (cs : Array Value) (fr : Nat × Nat) (d : TypeDesc)
    (hp : tmps.getD p undef = .pointer (some ⟨g, 0, none⟩)) (hg : w.heap[g]? = some (.cells cs t fr))
    (hu : P.underlying ty = some d) (hd : (match d with | .struct _ | .array _ _ => true | _ => false) = true) (hi : (P.info? ty).map (·.size) = some cs.size) :
    (results fn tmps).run P w = .ok (.tuple #[.agg cs, tmps.getD u undef]) w := by
  have hp' : tmps[p]?.getD undef = .pointer (some ⟨g, 0, none⟩) := by simpa using hp
  simp [results, h, hp', asAddr, run_loadVar_row w g t ty cs fr d hg hu hd hi, Result.andThen]
abbrev cBox (k s t v a b c : Int) : Obj := .cells #[.int .i64 k, .int .i64 s, .int .i64 t, .int .i64 v, .int .i64 a, .int .i64 b, .int .i64 c] 49

set_option maxRecDepth 100000 in
set_option maxHeartbeats 1000000 in
theorem cValidateV (k s t v a b c : Int) (w : World) : Calls Tryz.prog 29 #[cv k s t v a b c] w fun e w' => e = .returned (.int .i64 (JM.errCh (DM.ver (k, s, t, v, a, b, c)))) ∧ Below w.heap.size w w' := by
  have hb := below_fresh w (cBox k s t v a b c)
  have hx := heap_alloc_new w (cBox k s t v a b c)
  have hw : ∃ w1, w.alloc (cBox k s t v a b c) = w1 := ⟨_, rfl⟩
  obtain ⟨w1, hw1⟩ := hw
  rw [hw1] at hb hx
  have HB := Lib.hid hb
  have HX := Lib.hid hx
  have HW := Lib.hid hw1
  obtain ⟨⟨c0, c1, c2, c3, c4, c5, c6⟩, f0, f1, f2, f3, f4, f5, f6⟩ := row7_atF hx
  have hlast : ∀ (v' : Int) (w2 : World), DM.ver (k, s, t, v, a, b, c) = (k, s, t, v', a, b, c) → Below w.heap.size w w2 → Calls Tryz.prog 45 #[cv k s t v' a b c] w2 fun e w' => e = .returned (.int .i64 (JM.errCh (DM.ver (k, s, t, v, a, b, c)))) ∧ Below w.heap.size w w' := by
    intro v' w2 he hb2
    rw [he]
    refine (cValChange k s t v' a b c w2).mono ?_
    rintro e w' ⟨h1, h2⟩
    exact ⟨h1, bnext hb2 h2⟩
  have HL := Lib.hid hlast
  clear hb hx hw1 hlast
  by_cases hv : v = 0
  · subst hv
    have hstore : Below w.heap.size w (w1.setCell ⟨w.heap.size, 3, none⟩ (.int .i64 1)) := HB.out.setCell (Nat.le_refl _) _
    have hp := (heap_setCell_same w1 w.heap.size 3 _ _ (.int .i64 1) HX.out)
    have HS := Lib.hid hstore
    have HP := Lib.hid (show (w1.setCell ⟨w.heap.size, 3, none⟩ (.int .i64 1)).heap[w.heap.size]? = some (cBox k s t 1 a b c) from hp)
    clear hstore hp
    obtain ⟨⟨d0, d1, d2, d3, d4, d5, d6⟩, _⟩ := row7_atF HP.out
    by_cases hk3 : k = 3
    · have HC := Lib.hid (HL.out 1 _ (by show (_, _, _, (if (0 : Int) = 0 ∧ (k = 3 ∨ k = 4) then (1 : Int) else 0), _) = _; rw [if_pos ⟨rfl, .inl hk3⟩]) HS.out)
      generalize JM.errCh (DM.ver (k, s, t, 0, a, b, c)) = E at HC ⊢
      clear HL
      have hq : (k == 3) = true := by simpa using hk3
      clear hk3
      go_enter Tryz.func29, Tryz.ntmps29
      go_upto_region 1 with fail
      rw [HW.out]
      go_wp2_with fail
      refine HC.out.mono ?_
      rintro e w3 ⟨rfl, hb3⟩
      go_wp2
      go_ret
      exact ⟨rfl, hb3⟩
    · by_cases hk4 : k = 4
      · have HC := Lib.hid (HL.out 1 _ (by show (_, _, _, (if (0 : Int) = 0 ∧ (k = 3 ∨ k = 4) then (1 : Int) else 0), _) = _; rw [if_pos ⟨rfl, .inr hk4⟩]) HS.out)
        generalize JM.errCh (DM.ver (k, s, t, 0, a, b, c)) = E at HC ⊢
        clear HL
        have hq : (k == 3) = false := by simpa using hk3
        have hq4 : (k == 4) = true := by simpa using hk4
        clear hk3 hk4
        go_enter Tryz.func29, Tryz.ntmps29
        go_upto_region 1 with fail
        rw [HW.out]
        go_wp2_with fail
        refine HC.out.mono ?_
        rintro e w3 ⟨rfl, hb3⟩
        go_wp2
        go_ret
        exact ⟨rfl, hb3⟩
      · have HC := Lib.hid (HL.out 0 w1 (by show (_, _, _, (if (0 : Int) = 0 ∧ (k = 3 ∨ k = 4) then (1 : Int) else 0), _) = _; rw [if_neg (by omega)]) HB.out)
        generalize JM.errCh (DM.ver (k, s, t, 0, a, b, c)) = E at HC ⊢
        clear HL d0 d1 d2 d3 d4 d5 d6
        have hq : (k == 3) = false := by simpa using hk3
        have hq4 : (k == 4) = false := by simpa using hk4
        clear hk3 hk4
        go_enter Tryz.func29, Tryz.ntmps29
        go_upto_region 1 with fail
        rw [HW.out]
        go_wp2_with fail
        refine HC.out.mono ?_
        rintro e w3 ⟨rfl, hb3⟩
        go_wp2
        go_ret
        exact ⟨rfl, hb3⟩
  · have HC := Lib.hid (HL.out v w1 (by show (_, _, _, (if v = 0 ∧ (k = 3 ∨ k = 4) then (1 : Int) else v), _) = _; rw [if_neg (by omega)]) HB.out)
    generalize JM.errCh (DM.ver (k, s, t, v, a, b, c)) = E at HC ⊢
    clear HL
    have hq : (v == 0) = false := by simpa using hv
    clear hv
    go_enter Tryz.func29, Tryz.ntmps29
    go_upto_region 1 with fail
    rw [HW.out]
    go_wp2_with fail
    refine HC.out.mono ?_
    rintro e w3 ⟨rfl, hb3⟩
    go_wp2
    go_ret
    exact ⟨rfl, hb3⟩

theorem rch_ret {R : Ending → World → Prop} {a : Act} {w : World} {g : Nat} {k s t v x y z : Int} (hp : a.tmps.getD 2 undef = .pointer (some ⟨g, 0, none⟩)) (hg : w.heap[g]? = some (cBox k s t v x y z))
    (hd : a.defers = []) (hR : R (.returned (cv k s t v x y z)) w) : bodyPost Tryz.prog Tryz.f28 R .ret a w :=
  bodyPost_ret (results_cell_row (P := Tryz.prog) rfl a.tmps w g 49 _ _ _ hp hg Tryz.underlying49 rfl (by kernel_rfl)) hd hR
set_option maxRecDepth 100000 in
set_option maxHeartbeats 1000000 in
theorem cRuleChange (k c f : Int) (w : World) : Calls Tryz.prog 28 #[rl k c f] w fun e w' => e = .returned (cv 4 0 0 0 k c f) ∧ Below w.heap.size w w' := by
  obtain ⟨w2, hw2, hB, hZ⟩ : ∃ w2, (w.alloc (.cells #[.int .i64 k, .int .i64 c, .int .i64 f] 28)).alloc (cBox 0 0 0 0 0 0 0) = w2 ∧ Below w.heap.size w w2 ∧ w2.heap[w.heap.size + 1]? = some (cBox 0 0 0 0 0 0 0) :=
    ⟨_, rfl, bnext (below_fresh _ _) (below_fresh _ _), by rw [← World.size_alloc w (.cells #[.int .i64 k, .int .i64 c, .int .i64 f] 28)]; exact heap_alloc_new _ _⟩
  have hR : w2.heap[w.heap.size]? = some (.cells #[.int .i64 k, .int .i64 c, .int .i64 f] 28 (0, 0)) := by rw [← hw2]; exact below_block (heap_alloc_new w _) (below_fresh _ _)
  have HB := Lib.hid hB
  have HZ := Lib.hid hZ
  have HW := Lib.hid hw2
  obtain ⟨⟨r0, r1, r2⟩, _⟩ := row3_at hR
  obtain ⟨⟨c0, c1, c2, c3, c4, c5, c6⟩, f0, f1, f2, f3, f4, f5, f6⟩ := row7_atF hZ
  clear hB hZ hw2 hR
  go_enter Tryz.func28, Tryz.ntmps28
  go_upto_region 1 with fail
  rw [HW.out]
  go_wp2
  have hput := row7_putO HZ.out (.int .i64 4) (.int .i64 0) (.int .i64 0) (.int .i64 0) (.int .i64 k) (.int .i64 c) (.int .i64 f)
  exact rch_ret rfl hput.1 rfl ⟨rfl, HB.out.trans (hput.2.below (Nat.le_succ _) HB.out.size)⟩

theorem parse_ret {R : Ending → World → Prop} {a : Act} {w : World} {g : Nat} {k s t v x y z er : Int} (hp : a.tmps.getD 2 undef = .pointer (some ⟨g, 0, none⟩)) (h3 : a.tmps.getD 3 undef = .int .i64 er) (hg : w.heap[g]? = some (cBox k s t v x y z))
    (hd : a.defers = []) (hR : R (.returned (.tuple #[cv k s t v x y z, .int .i64 er])) w) : bodyPost Tryz.prog Tryz.f12 R .ret a w := by
  have := results_cell_tmp1 (P := Tryz.prog) (fn := Tryz.f12) rfl a.tmps w g 49 _ _ _ hp hg Tryz.underlying49 rfl (by kernel_rfl)
  rw [h3] at this
  exact bodyPost_ret this hd hR
def Ppost (l : List UInt8) (w : World) (e : Ending) (w' : World) : Prop := e = .returned (.tuple #[cvT (DM.prs l).1, .int .i64 (DM.prs l).2]) ∧ Below w.heap.size w w'
set_option maxRecDepth 100000 in
set_option maxHeartbeats 4000000 in
theorem cParse (s : ByteArray) (w : World) (hs : s.size ≤ 1000000) (hV : Vars w) : Calls Tryz.prog 12 #[.string s] w (Ppost s.data.toList w) := by
  obtain ⟨w2, hw2, hB, hC⟩ : ∃ w2, (w.alloc (cBox 0 0 0 0 0 0 0)).alloc (cBox 0 0 0 0 0 0 0) = w2 ∧ Below w.heap.size w w2 ∧ w2.heap[w.heap.size + 1]? = some (cBox 0 0 0 0 0 0 0) :=
    ⟨_, rfl, bnext (below_fresh _ _) (below_fresh _ _), by rw [← World.size_alloc w (cBox 0 0 0 0 0 0 0)]; exact heap_alloc_new _ _⟩
  have hR : w2.heap[w.heap.size]? = some (cBox 0 0 0 0 0 0 0) := by rw [← hw2]; exact below_block (heap_alloc_new w _) (below_fresh _ _)
  have HSP := Lib.hid (cSplit s w2 hs (hV.below hB))
  have HWY := Lib.hid (DM.way s.data.toList)
  obtain ⟨l, hl⟩ : ∃ l, l = s.data.toList := ⟨_, rfl⟩
  rw [← hl] at HSP HWY ⊢
  have HB := Lib.hid hB
  have HC := Lib.hid hC
  have HR := Lib.hid hR
  have HW := Lib.hid hw2
  clear hs hV hl hB hC hR hw2
  go_enter Tryz.func12, Tryz.ntmps12
  go_upto_region 2 with fail
  rw [HW.out]
  go_wp2_with fail
  refine HSP.out.mono ?_
  rintro e w3 ⟨S, sv, rfl, hsd, hown, hb3⟩
  obtain ⟨na, nc, hsv, _⟩ := hown.rd.shape
  obtain ⟨nl, hnl⟩ : ∃ nl, nl = (DM.nums l).length := ⟨_, rfl⟩
  rw [← hnl] at hsv
  subst hsv
  have HSD := Lib.hid hsd
  have HO := Lib.hid hown
  have HNL := Lib.hid hnl
  have HB3 := Lib.hid (bnext HB.out hb3)
  have HC3 := Lib.hid (below_block HC.out hb3)
  have HR3 := Lib.hid (below_block HR.out hb3)
  have HZ := Lib.hid (show w2.heap.size ≤ w3.heap.size from hb3.size)
  have HG := Lib.hid (show w.heap.size + 1 < w2.heap.size from (Array.getElem?_eq_some_iff.1 HC.out).1)
  clear hsd hown hnl hb3 HSP HB HC HR HW
  have hwy := HWY.out
  clear HWY
  rcases hwy with ⟨n0, h1, h2, h3, hb0⟩ | ⟨n0, n1, h1, h2, h3, hb0, hb1⟩ | ⟨n0, h1, h2, h3, hb0⟩ | ⟨n0, n1, h1, h2, h3, hb0, hb1⟩ | ⟨h1, h3⟩ | ⟨h1, h3⟩ | ⟨n0, h1, h2, h3, hb0⟩ | ⟨n0, h1, h2, h3, hb0⟩ | ⟨h1, h2, h3, h4, h5, h6, h7, h8, h⟩
  · have hk1 : (S.toList == [106, 111, 105, 110, 32, 48]) = true := by rw [ByteArray.toList_eq, HSD.out, h1]; decide
    have H3 := Lib.hid h3
    have H2 := Lib.hid h2
    clear h1 h3 h2
    have HO3 := Lib.hid (show OwnI w2.heap.size w3 (.slice na nl nc) [n0] by have := HO.out; rwa [H2.out] at this)
    clear HO
    go_wp2_with (at_builtin; refine wp_appG1 intE 1 rfl _ _ rfl rfl HO3.out rfl (by simp) HZ.out ?_)
    intro v' w4 ho4 hb4 hk4 _
    replace HO3 := Lib.hid (show RdI w4 v' [n0, 1] from ho4.rd)
    replace HC3 := Lib.hid (hk4.at HC3.out (by decide))
    replace HR3 := Lib.hid (hk4.at HR3.out (by decide))
    replace HB3 := Lib.hid (HB3.out.trans (hb4.mono (by have := HG.out; omega)))
    obtain ⟨na', nl', nc', hv'⟩ : ∃ a l c, v' = .slice a l c := by obtain ⟨a, c, h, _⟩ := ho4.rd.shape; exact ⟨a, _, c, h⟩
    subst hv'
    clear ho4 hb4 hk4 HZ HG
    obtain ⟨p0, o0, hi, hpb0, hp0⟩ := atI HO3.out 0 n0 rfl
    have hi0 : ∀ w0, (Instr.indexAt 22 (.slice na' nl' nc') (.int .i64 0)).run Tryz.prog w0 = .ok (.pointer (some ⟨p0, o0, none⟩)) w0 := hi
    clear hi
    obtain ⟨p1, o1, hi, hpb1, hp1⟩ := atI HO3.out 1 1 rfl
    have hi1 : ∀ w0, (Instr.indexAt 22 (.slice na' nl' nc') (.int .i64 1)).run Tryz.prog w0 = .ok (.pointer (some ⟨p1, o1, none⟩)) w0 := hi
    clear hi
    obtain ⟨⟨c0, c1, c2, c3, c4, c5, c6⟩, f0, f1, f2, f3, f4, f5, f6⟩ := row7_atF HC3.out
    go_upto_region 13 with fail
    go_still_tail 7, (by kernel_rfl)
    change wpList _ _ _ _ _ w4.drew
    replace HC3 := Lib.hid (show w4.drew.heap[w.heap.size + 1]? = some (cBox 0 0 0 0 0 0 0) from HC3.out)
    replace HR3 := Lib.hid (show w4.drew.heap[w.heap.size]? = some (cBox 0 0 0 0 0 0 0) from HR3.out)
    replace HB3 := Lib.hid (show Below w.heap.size w w4.drew from HB3.out.drew)
    clear c0 c1 c2 c3 c4 c5 c6 f0 f1 f2 f3 f4 f5 f6
    generalize w4.drew = w5 at HC3 HR3 HB3 ⊢
    clear hi0 hpb0 hp0 hi1 hpb1 hp1 HO3
    obtain ⟨⟨c0, c1, c2, c3, c4, c5, c6⟩, f0, f1, f2, f3, f4, f5, f6⟩ := row7_atF HC3.out
    have hput := row7_putO HC3.out (.int .i64 1) (.int .i64 n0) (.int .i64 1) (.int .i64 0) (.int .i64 0) (.int .i64 0) (.int .i64 0)
    have HC5 := Lib.hid hput.1
    have HR5 := Lib.hid (hput.2.at HR3.out (by omega))
    have HB5 := Lib.hid (HB3.out.trans (hput.2.below (Nat.le_succ _) HB3.out.size))
    clear hput
    go_upto_region 21 with fail
    clear c0 c1 c2 c3 c4 c5 c6 f0 f1 f2 f3 f4 f5 f6
    have HV := Lib.hid (fun w5 => cValidateV 1 n0 1 0 0 0 0 w5)
    obtain ⟨⟨c0, c1, c2, c3, c4, c5, c6⟩, g0, g1, g2, g3, g4, g5, g6⟩ := row7_atF HC5.out
    go_wp2_with fail
    refine (HV.out _).mono ?_
    rintro e w6 ⟨rfl, hb6⟩
    have HC6 := Lib.hid (below_block HC5.out hb6)
    have HR6 := Lib.hid (below_block HR5.out hb6)
    have HB6 := Lib.hid (bnext HB5.out hb6)
    clear c0 c1 c2 c3 c4 c5 c6 g0 g1 g2 g3 g4 g5 g6 hb6 HV HC5 HR5 HB5
    obtain ⟨⟨c0, c1, c2, c3, c4, c5, c6⟩, _⟩ := row7_atF HC6.out
    obtain ⟨⟨r0, r1, r2, r3, r4, r5, r6⟩, f0, f1, f2, f3, f4, f5, f6⟩ := row7_atF HR6.out
    have hprs : Hid (DM.prs l = if JM.errCh (DM.ver (1, n0, 1, 0, 0, 0, 0)) = 0 then ((1, n0, 1, 0, 0, 0, 0), 0) else (DM.zc, JM.errCh (DM.ver (1, n0, 1, 0, 0, 0, 0)))) := Lib.hid (by unfold DM.prs; rw [H3.out])
    obtain ⟨E, hE⟩ : ∃ E, E = JM.errCh (DM.ver (1, n0, 1, 0, 0, 0, 0)) := ⟨_, rfl⟩
    rw [← hE] at hprs ⊢
    clear hE
    by_cases hz : E = 0
    · subst hz
      go_wp2
      have hput := row7_putO HR6.out (.int .i64 1) (.int .i64 n0) (.int .i64 1) (.int .i64 0) (.int .i64 0) (.int .i64 0) (.int .i64 0)
      refine parse_ret rfl rfl hput.1 rfl ⟨?_, HB6.out.trans (hput.2.below (Nat.le_refl _) HB6.out.size)⟩
      rw [hprs.out]; first | (rw [if_pos rfl]; rfl) | (rw [if_pos trivial]; rfl)
    · have hne : (E != 0) = true := by simpa using hz
      have HZE := Lib.hid hz
      clear hz
      go_wp2
      have hput := row7_putO HR6.out (.int .i64 0) (.int .i64 0) (.int .i64 0) (.int .i64 0) (.int .i64 0) (.int .i64 0) (.int .i64 0)
      refine parse_ret rfl rfl hput.1 rfl ⟨?_, HB6.out.trans (hput.2.below (Nat.le_refl _) HB6.out.size)⟩
      rw [hprs.out, if_neg HZE.out]; rfl
  · have hk1 : (S.toList == [106, 111, 105, 110, 32, 48]) = false := by rw [ByteArray.toList_eq, HSD.out, h1]; decide
    have hk2 : (S.toList == [106, 111, 105, 110, 32, 48, 32, 119, 101, 105, 103, 104, 116, 32, 48]) = true := by rw [ByteArray.toList_eq, HSD.out, h1]; decide
    have H3 := Lib.hid h3
    have H2 := Lib.hid h2
    clear h1 h3 h2
    have HO3 := Lib.hid (show RdI w3 (.slice na nl nc) [n0, n1] by have := HO.out.rd; rwa [H2.out] at this)
    clear HO
    obtain ⟨p0, o0, hi, hpb0, hp0⟩ := atI HO3.out 0 n0 rfl
    have hi0 : ∀ w0, (Instr.indexAt 22 (.slice na nl nc) (.int .i64 0)).run Tryz.prog w0 = .ok (.pointer (some ⟨p0, o0, none⟩)) w0 := hi
    clear hi
    obtain ⟨p1, o1, hi, hpb1, hp1⟩ := atI HO3.out 1 n1 rfl
    have hi1 : ∀ w0, (Instr.indexAt 22 (.slice na nl nc) (.int .i64 1)).run Tryz.prog w0 = .ok (.pointer (some ⟨p1, o1, none⟩)) w0 := hi
    clear hi
    obtain ⟨⟨c0, c1, c2, c3, c4, c5, c6⟩, f0, f1, f2, f3, f4, f5, f6⟩ := row7_atF HC3.out
    go_upto_region 13 with fail
    go_still_tail 7, (by kernel_rfl)
    change wpList _ _ _ _ _ w3.drew
    replace HC3 := Lib.hid (show w3.drew.heap[w.heap.size + 1]? = some (cBox 0 0 0 0 0 0 0) from HC3.out)
    replace HR3 := Lib.hid (show w3.drew.heap[w.heap.size]? = some (cBox 0 0 0 0 0 0 0) from HR3.out)
    replace HB3 := Lib.hid (show Below w.heap.size w w3.drew from HB3.out.drew)
    clear c0 c1 c2 c3 c4 c5 c6 f0 f1 f2 f3 f4 f5 f6
    generalize w3.drew = w5 at HC3 HR3 HB3 ⊢
    clear hi0 hpb0 hp0 hi1 hpb1 hp1 HO3
    obtain ⟨⟨c0, c1, c2, c3, c4, c5, c6⟩, f0, f1, f2, f3, f4, f5, f6⟩ := row7_atF HC3.out
    have hput := row7_putO HC3.out (.int .i64 1) (.int .i64 n0) (.int .i64 n1) (.int .i64 0) (.int .i64 0) (.int .i64 0) (.int .i64 0)
    have HC5 := Lib.hid hput.1
    have HR5 := Lib.hid (hput.2.at HR3.out (by omega))
    have HB5 := Lib.hid (HB3.out.trans (hput.2.below (Nat.le_succ _) HB3.out.size))
    clear hput
    go_upto_region 21 with fail
    clear c0 c1 c2 c3 c4 c5 c6 f0 f1 f2 f3 f4 f5 f6
    have HV := Lib.hid (fun w5 => cValidateV 1 n0 n1 0 0 0 0 w5)
    obtain ⟨⟨c0, c1, c2, c3, c4, c5, c6⟩, g0, g1, g2, g3, g4, g5, g6⟩ := row7_atF HC5.out
    go_wp2_with fail
    refine (HV.out _).mono ?_
    rintro e w6 ⟨rfl, hb6⟩
    have HC6 := Lib.hid (below_block HC5.out hb6)
    have HR6 := Lib.hid (below_block HR5.out hb6)
    have HB6 := Lib.hid (bnext HB5.out hb6)
    clear c0 c1 c2 c3 c4 c5 c6 g0 g1 g2 g3 g4 g5 g6 hb6 HV HC5 HR5 HB5
    obtain ⟨⟨c0, c1, c2, c3, c4, c5, c6⟩, _⟩ := row7_atF HC6.out
    obtain ⟨⟨r0, r1, r2, r3, r4, r5, r6⟩, f0, f1, f2, f3, f4, f5, f6⟩ := row7_atF HR6.out
    have hprs : Hid (DM.prs l = if JM.errCh (DM.ver (1, n0, n1, 0, 0, 0, 0)) = 0 then ((1, n0, n1, 0, 0, 0, 0), 0) else (DM.zc, JM.errCh (DM.ver (1, n0, n1, 0, 0, 0, 0)))) := Lib.hid (by unfold DM.prs; rw [H3.out])
    obtain ⟨E, hE⟩ : ∃ E, E = JM.errCh (DM.ver (1, n0, n1, 0, 0, 0, 0)) := ⟨_, rfl⟩
    rw [← hE] at hprs ⊢
    clear hE
    by_cases hz : E = 0
    · subst hz
      go_wp2
      have hput := row7_putO HR6.out (.int .i64 1) (.int .i64 n0) (.int .i64 n1) (.int .i64 0) (.int .i64 0) (.int .i64 0) (.int .i64 0)
      refine parse_ret rfl rfl hput.1 rfl ⟨?_, HB6.out.trans (hput.2.below (Nat.le_refl _) HB6.out.size)⟩
      rw [hprs.out]; first | (rw [if_pos rfl]; rfl) | (rw [if_pos trivial]; rfl)
    · have hne : (E != 0) = true := by simpa using hz
      have HZE := Lib.hid hz
      clear hz
      go_wp2
      have hput := row7_putO HR6.out (.int .i64 0) (.int .i64 0) (.int .i64 0) (.int .i64 0) (.int .i64 0) (.int .i64 0) (.int .i64 0)
      refine parse_ret rfl rfl hput.1 rfl ⟨?_, HB6.out.trans (hput.2.below (Nat.le_refl _) HB6.out.size)⟩
      rw [hprs.out, if_neg HZE.out]; rfl
  · have hk1 : (S.toList == [106, 111, 105, 110, 32, 48]) = false := by rw [ByteArray.toList_eq, HSD.out, h1]; decide
    have hk2 : (S.toList == [106, 111, 105, 110, 32, 48, 32, 119, 101, 105, 103, 104, 116, 32, 48]) = false := by rw [ByteArray.toList_eq, HSD.out, h1]; decide
    have hk3 : (S.toList == [114, 101, 109, 111, 118, 101, 32, 48]) = true := by rw [ByteArray.toList_eq, HSD.out, h1]; decide
    have H3 := Lib.hid h3
    have H2 := Lib.hid h2
    clear h1 h3 h2
    have HO3 := Lib.hid (show RdI w3 (.slice na nl nc) [n0] by have := HO.out.rd; rwa [H2.out] at this)
    clear HO
    obtain ⟨p0, o0, hi, hpb0, hp0⟩ := atI HO3.out 0 n0 rfl
    have hi0 : ∀ w0, (Instr.indexAt 22 (.slice na nl nc) (.int .i64 0)).run Tryz.prog w0 = .ok (.pointer (some ⟨p0, o0, none⟩)) w0 := hi
    clear hi
    obtain ⟨⟨c0, c1, c2, c3, c4, c5, c6⟩, f0, f1, f2, f3, f4, f5, f6⟩ := row7_atF HC3.out
    have hput := row7_putO HC3.out (.int .i64 2) (.int .i64 n0) (.int .i64 0) (.int .i64 0) (.int .i64 0) (.int .i64 0) (.int .i64 0)
    have HC5 := Lib.hid hput.1
    have HR5 := Lib.hid (hput.2.at HR3.out (by omega))
    have HB5 := Lib.hid (HB3.out.trans (hput.2.below (Nat.le_succ _) HB3.out.size))
    clear hput
    go_upto_region 21 with fail
    clear c0 c1 c2 c3 c4 c5 c6 f0 f1 f2 f3 f4 f5 f6
    have HV := Lib.hid (fun w5 => cValidateV 2 n0 0 0 0 0 0 w5)
    obtain ⟨⟨c0, c1, c2, c3, c4, c5, c6⟩, g0, g1, g2, g3, g4, g5, g6⟩ := row7_atF HC5.out
    go_wp2_with fail
    refine (HV.out _).mono ?_
    rintro e w6 ⟨rfl, hb6⟩
    have HC6 := Lib.hid (below_block HC5.out hb6)
    have HR6 := Lib.hid (below_block HR5.out hb6)
    have HB6 := Lib.hid (bnext HB5.out hb6)
    clear c0 c1 c2 c3 c4 c5 c6 g0 g1 g2 g3 g4 g5 g6 hb6 HV HC5 HR5 HB5
    obtain ⟨⟨c0, c1, c2, c3, c4, c5, c6⟩, _⟩ := row7_atF HC6.out
    obtain ⟨⟨r0, r1, r2, r3, r4, r5, r6⟩, f0, f1, f2, f3, f4, f5, f6⟩ := row7_atF HR6.out
    have hprs : Hid (DM.prs l = if JM.errCh (DM.ver (2, n0, 0, 0, 0, 0, 0)) = 0 then ((2, n0, 0, 0, 0, 0, 0), 0) else (DM.zc, JM.errCh (DM.ver (2, n0, 0, 0, 0, 0, 0)))) := Lib.hid (by unfold DM.prs; rw [H3.out])
    obtain ⟨E, hE⟩ : ∃ E, E = JM.errCh (DM.ver (2, n0, 0, 0, 0, 0, 0)) := ⟨_, rfl⟩
    rw [← hE] at hprs ⊢
    clear hE
    by_cases hz : E = 0
    · subst hz
      go_wp2
      have hput := row7_putO HR6.out (.int .i64 2) (.int .i64 n0) (.int .i64 0) (.int .i64 0) (.int .i64 0) (.int .i64 0) (.int .i64 0)
      refine parse_ret rfl rfl hput.1 rfl ⟨?_, HB6.out.trans (hput.2.below (Nat.le_refl _) HB6.out.size)⟩
      rw [hprs.out]; first | (rw [if_pos rfl]; rfl) | (rw [if_pos trivial]; rfl)
    · have hne : (E != 0) = true := by simpa using hz
      have HZE := Lib.hid hz
      clear hz
      go_wp2
      have hput := row7_putO HR6.out (.int .i64 0) (.int .i64 0) (.int .i64 0) (.int .i64 0) (.int .i64 0) (.int .i64 0) (.int .i64 0)
      refine parse_ret rfl rfl hput.1 rfl ⟨?_, HB6.out.trans (hput.2.below (Nat.le_refl _) HB6.out.size)⟩
      rw [hprs.out, if_neg HZE.out]; rfl
  · have hk1 : (S.toList == [106, 111, 105, 110, 32, 48]) = false := by rw [ByteArray.toList_eq, HSD.out, h1]; decide
    have hk2 : (S.toList == [106, 111, 105, 110, 32, 48, 32, 119, 101, 105, 103, 104, 116, 32, 48]) = false := by rw [ByteArray.toList_eq, HSD.out, h1]; decide
    have hk3 : (S.toList == [114, 101, 109, 111, 118, 101, 32, 48]) = false := by rw [ByteArray.toList_eq, HSD.out, h1]; decide
    have hk4 : (S.toList == [119, 101, 105, 103, 104, 116, 32, 48, 32, 48]) = true := by rw [ByteArray.toList_eq, HSD.out, h1]; decide
    have H3 := Lib.hid h3
    have H2 := Lib.hid h2
    clear h1 h3 h2
    have HO3 := Lib.hid (show RdI w3 (.slice na nl nc) [n0, n1] by have := HO.out.rd; rwa [H2.out] at this)
    clear HO
    obtain ⟨p0, o0, hi, hpb0, hp0⟩ := atI HO3.out 0 n0 rfl
    have hi0 : ∀ w0, (Instr.indexAt 22 (.slice na nl nc) (.int .i64 0)).run Tryz.prog w0 = .ok (.pointer (some ⟨p0, o0, none⟩)) w0 := hi
    clear hi
    obtain ⟨p1, o1, hi, hpb1, hp1⟩ := atI HO3.out 1 n1 rfl
    have hi1 : ∀ w0, (Instr.indexAt 22 (.slice na nl nc) (.int .i64 1)).run Tryz.prog w0 = .ok (.pointer (some ⟨p1, o1, none⟩)) w0 := hi
    clear hi
    obtain ⟨⟨c0, c1, c2, c3, c4, c5, c6⟩, f0, f1, f2, f3, f4, f5, f6⟩ := row7_atF HC3.out
    go_upto_region 15 with fail
    go_still_tail 7, (by kernel_rfl)
    change wpList _ _ _ _ _ w3.drew
    replace HC3 := Lib.hid (show w3.drew.heap[w.heap.size + 1]? = some (cBox 0 0 0 0 0 0 0) from HC3.out)
    replace HR3 := Lib.hid (show w3.drew.heap[w.heap.size]? = some (cBox 0 0 0 0 0 0 0) from HR3.out)
    replace HB3 := Lib.hid (show Below w.heap.size w w3.drew from HB3.out.drew)
    clear c0 c1 c2 c3 c4 c5 c6 f0 f1 f2 f3 f4 f5 f6
    generalize w3.drew = w5 at HC3 HR3 HB3 ⊢
    clear hi0 hpb0 hp0 hi1 hpb1 hp1 HO3
    obtain ⟨⟨c0, c1, c2, c3, c4, c5, c6⟩, f0, f1, f2, f3, f4, f5, f6⟩ := row7_atF HC3.out
    have hput := row7_putO HC3.out (.int .i64 3) (.int .i64 n0) (.int .i64 n1) (.int .i64 0) (.int .i64 0) (.int .i64 0) (.int .i64 0)
    have HC5 := Lib.hid hput.1
    have HR5 := Lib.hid (hput.2.at HR3.out (by omega))
    have HB5 := Lib.hid (HB3.out.trans (hput.2.below (Nat.le_succ _) HB3.out.size))
    clear hput
    go_upto_region 21 with fail
    clear c0 c1 c2 c3 c4 c5 c6 f0 f1 f2 f3 f4 f5 f6
    have HV := Lib.hid (fun w5 => cValidateV 3 n0 n1 0 0 0 0 w5)
    obtain ⟨⟨c0, c1, c2, c3, c4, c5, c6⟩, g0, g1, g2, g3, g4, g5, g6⟩ := row7_atF HC5.out
    go_wp2_with fail
    refine (HV.out _).mono ?_
    rintro e w6 ⟨rfl, hb6⟩
    have HC6 := Lib.hid (below_block HC5.out hb6)
    have HR6 := Lib.hid (below_block HR5.out hb6)
    have HB6 := Lib.hid (bnext HB5.out hb6)
    clear c0 c1 c2 c3 c4 c5 c6 g0 g1 g2 g3 g4 g5 g6 hb6 HV HC5 HR5 HB5
    obtain ⟨⟨c0, c1, c2, c3, c4, c5, c6⟩, _⟩ := row7_atF HC6.out
    obtain ⟨⟨r0, r1, r2, r3, r4, r5, r6⟩, f0, f1, f2, f3, f4, f5, f6⟩ := row7_atF HR6.out
    have hprs : Hid (DM.prs l = if JM.errCh (DM.ver (3, n0, n1, 0, 0, 0, 0)) = 0 then ((3, n0, n1, 0, 0, 0, 0), 0) else (DM.zc, JM.errCh (DM.ver (3, n0, n1, 0, 0, 0, 0)))) := Lib.hid (by unfold DM.prs; rw [H3.out])
    obtain ⟨E, hE⟩ : ∃ E, E = JM.errCh (DM.ver (3, n0, n1, 0, 0, 0, 0)) := ⟨_, rfl⟩
    rw [← hE] at hprs ⊢
    clear hE
    by_cases hz : E = 0
    · subst hz
      go_wp2
      have hput := row7_putO HR6.out (.int .i64 3) (.int .i64 n0) (.int .i64 n1) (.int .i64 0) (.int .i64 0) (.int .i64 0) (.int .i64 0)
      refine parse_ret rfl rfl hput.1 rfl ⟨?_, HB6.out.trans (hput.2.below (Nat.le_refl _) HB6.out.size)⟩
      rw [hprs.out]; first | (rw [if_pos rfl]; rfl) | (rw [if_pos trivial]; rfl)
    · have hne : (E != 0) = true := by simpa using hz
      have HZE := Lib.hid hz
      clear hz
      go_wp2
      have hput := row7_putO HR6.out (.int .i64 0) (.int .i64 0) (.int .i64 0) (.int .i64 0) (.int .i64 0) (.int .i64 0) (.int .i64 0)
      refine parse_ret rfl rfl hput.1 rfl ⟨?_, HB6.out.trans (hput.2.below (Nat.le_refl _) HB6.out.size)⟩
      rw [hprs.out, if_neg HZE.out]; rfl
  · have hk1 : (S.toList == [106, 111, 105, 110, 32, 48]) = false := by rw [ByteArray.toList_eq, HSD.out, h1]; decide
    have hk2 : (S.toList == [106, 111, 105, 110, 32, 48, 32, 119, 101, 105, 103, 104, 116, 32, 48]) = false := by rw [ByteArray.toList_eq, HSD.out, h1]; decide
    have hk3 : (S.toList == [114, 101, 109, 111, 118, 101, 32, 48]) = false := by rw [ByteArray.toList_eq, HSD.out, h1]; decide
    have hk4 : (S.toList == [119, 101, 105, 103, 104, 116, 32, 48, 32, 48]) = false := by rw [ByteArray.toList_eq, HSD.out, h1]; decide
    have hk5 : (S.toList == [114, 117, 108, 101, 32, 109, 97, 106, 111, 114, 105, 116, 121]) = true := by rw [ByteArray.toList_eq, HSD.out, h1]; decide
    have H3 := Lib.hid h3
    clear h1 h3
    have HRC := Lib.hid (cRuleChange 1 0 0 w3)
    go_wp2_with fail
    refine HRC.out.mono ?_
    rintro e w4 ⟨rfl, hb4⟩
    replace HC3 := Lib.hid (below_block HC3.out hb4)
    replace HR3 := Lib.hid (below_block HR3.out hb4)
    replace HB3 := Lib.hid (bnext HB3.out hb4)
    clear hb4 HRC
    obtain ⟨⟨c0, c1, c2, c3, c4, c5, c6⟩, f0, f1, f2, f3, f4, f5, f6⟩ := row7_atF HC3.out
    have hput := row7_putO HC3.out (.int .i64 4) (.int .i64 0) (.int .i64 0) (.int .i64 0) (.int .i64 1) (.int .i64 0) (.int .i64 0)
    have HC5 := Lib.hid hput.1
    have HR5 := Lib.hid (hput.2.at HR3.out (by omega))
    have HB5 := Lib.hid (HB3.out.trans (hput.2.below (Nat.le_succ _) HB3.out.size))
    clear hput
    have HV := Lib.hid (fun w5 => cValidateV 4 0 0 0 1 0 0 w5)
    obtain ⟨⟨c0, c1, c2, c3, c4, c5, c6⟩, g0, g1, g2, g3, g4, g5, g6⟩ := row7_atF HC5.out
    go_wp2_with fail
    refine (HV.out _).mono ?_
    rintro e w6 ⟨rfl, hb6⟩
    have HC6 := Lib.hid (below_block HC5.out hb6)
    have HR6 := Lib.hid (below_block HR5.out hb6)
    have HB6 := Lib.hid (bnext HB5.out hb6)
    clear c0 c1 c2 c3 c4 c5 c6 g0 g1 g2 g3 g4 g5 g6 hb6 HV HC5 HR5 HB5
    obtain ⟨⟨c0, c1, c2, c3, c4, c5, c6⟩, _⟩ := row7_atF HC6.out
    obtain ⟨⟨r0, r1, r2, r3, r4, r5, r6⟩, f0, f1, f2, f3, f4, f5, f6⟩ := row7_atF HR6.out
    have hprs : Hid (DM.prs l = if JM.errCh (DM.ver (4, 0, 0, 0, 1, 0, 0)) = 0 then ((4, 0, 0, 0, 1, 0, 0), 0) else (DM.zc, JM.errCh (DM.ver (4, 0, 0, 0, 1, 0, 0)))) := Lib.hid (by unfold DM.prs; rw [H3.out])
    obtain ⟨E, hE⟩ : ∃ E, E = JM.errCh (DM.ver (4, 0, 0, 0, 1, 0, 0)) := ⟨_, rfl⟩
    rw [← hE] at hprs ⊢
    clear hE
    by_cases hz : E = 0
    · subst hz
      go_wp2
      have hput := row7_putO HR6.out (.int .i64 4) (.int .i64 0) (.int .i64 0) (.int .i64 0) (.int .i64 1) (.int .i64 0) (.int .i64 0)
      refine parse_ret rfl rfl hput.1 rfl ⟨?_, HB6.out.trans (hput.2.below (Nat.le_refl _) HB6.out.size)⟩
      rw [hprs.out]; first | (rw [if_pos rfl]; rfl) | (rw [if_pos trivial]; rfl)
    · have hne : (E != 0) = true := by simpa using hz
      have HZE := Lib.hid hz
      clear hz
      go_wp2
      have hput := row7_putO HR6.out (.int .i64 0) (.int .i64 0) (.int .i64 0) (.int .i64 0) (.int .i64 0) (.int .i64 0) (.int .i64 0)
      refine parse_ret rfl rfl hput.1 rfl ⟨?_, HB6.out.trans (hput.2.below (Nat.le_refl _) HB6.out.size)⟩
      rw [hprs.out, if_neg HZE.out]; rfl
  · have hk1 : (S.toList == [106, 111, 105, 110, 32, 48]) = false := by rw [ByteArray.toList_eq, HSD.out, h1]; decide
    have hk2 : (S.toList == [106, 111, 105, 110, 32, 48, 32, 119, 101, 105, 103, 104, 116, 32, 48]) = false := by rw [ByteArray.toList_eq, HSD.out, h1]; decide
    have hk3 : (S.toList == [114, 101, 109, 111, 118, 101, 32, 48]) = false := by rw [ByteArray.toList_eq, HSD.out, h1]; decide
    have hk4 : (S.toList == [119, 101, 105, 103, 104, 116, 32, 48, 32, 48]) = false := by rw [ByteArray.toList_eq, HSD.out, h1]; decide
    have hk5 : (S.toList == [114, 117, 108, 101, 32, 109, 97, 106, 111, 114, 105, 116, 121]) = false := by rw [ByteArray.toList_eq, HSD.out, h1]; decide
    have hk6 : (S.toList == [114, 117, 108, 101, 32, 119, 101, 105, 103, 104, 116, 101, 100]) = true := by rw [ByteArray.toList_eq, HSD.out, h1]; decide
    have H3 := Lib.hid h3
    clear h1 h3
    have HRC := Lib.hid (cRuleChange 2 0 0 w3)
    go_wp2_with fail
    refine HRC.out.mono ?_
    rintro e w4 ⟨rfl, hb4⟩
    replace HC3 := Lib.hid (below_block HC3.out hb4)
    replace HR3 := Lib.hid (below_block HR3.out hb4)
    replace HB3 := Lib.hid (bnext HB3.out hb4)
    clear hb4 HRC
    obtain ⟨⟨c0, c1, c2, c3, c4, c5, c6⟩, f0, f1, f2, f3, f4, f5, f6⟩ := row7_atF HC3.out
    have hput := row7_putO HC3.out (.int .i64 4) (.int .i64 0) (.int .i64 0) (.int .i64 0) (.int .i64 2) (.int .i64 0) (.int .i64 0)
    have HC5 := Lib.hid hput.1
    have HR5 := Lib.hid (hput.2.at HR3.out (by omega))
    have HB5 := Lib.hid (HB3.out.trans (hput.2.below (Nat.le_succ _) HB3.out.size))
    clear hput
    have HV := Lib.hid (fun w5 => cValidateV 4 0 0 0 2 0 0 w5)
    obtain ⟨⟨c0, c1, c2, c3, c4, c5, c6⟩, g0, g1, g2, g3, g4, g5, g6⟩ := row7_atF HC5.out
    go_wp2_with fail
    refine (HV.out _).mono ?_
    rintro e w6 ⟨rfl, hb6⟩
    have HC6 := Lib.hid (below_block HC5.out hb6)
    have HR6 := Lib.hid (below_block HR5.out hb6)
    have HB6 := Lib.hid (bnext HB5.out hb6)
    clear c0 c1 c2 c3 c4 c5 c6 g0 g1 g2 g3 g4 g5 g6 hb6 HV HC5 HR5 HB5
    obtain ⟨⟨c0, c1, c2, c3, c4, c5, c6⟩, _⟩ := row7_atF HC6.out
    obtain ⟨⟨r0, r1, r2, r3, r4, r5, r6⟩, f0, f1, f2, f3, f4, f5, f6⟩ := row7_atF HR6.out
    have hprs : Hid (DM.prs l = if JM.errCh (DM.ver (4, 0, 0, 0, 2, 0, 0)) = 0 then ((4, 0, 0, 0, 2, 0, 0), 0) else (DM.zc, JM.errCh (DM.ver (4, 0, 0, 0, 2, 0, 0)))) := Lib.hid (by unfold DM.prs; rw [H3.out])
    obtain ⟨E, hE⟩ : ∃ E, E = JM.errCh (DM.ver (4, 0, 0, 0, 2, 0, 0)) := ⟨_, rfl⟩
    rw [← hE] at hprs ⊢
    clear hE
    by_cases hz : E = 0
    · subst hz
      go_wp2
      have hput := row7_putO HR6.out (.int .i64 4) (.int .i64 0) (.int .i64 0) (.int .i64 0) (.int .i64 2) (.int .i64 0) (.int .i64 0)
      refine parse_ret rfl rfl hput.1 rfl ⟨?_, HB6.out.trans (hput.2.below (Nat.le_refl _) HB6.out.size)⟩
      rw [hprs.out]; first | (rw [if_pos rfl]; rfl) | (rw [if_pos trivial]; rfl)
    · have hne : (E != 0) = true := by simpa using hz
      have HZE := Lib.hid hz
      clear hz
      go_wp2
      have hput := row7_putO HR6.out (.int .i64 0) (.int .i64 0) (.int .i64 0) (.int .i64 0) (.int .i64 0) (.int .i64 0) (.int .i64 0)
      refine parse_ret rfl rfl hput.1 rfl ⟨?_, HB6.out.trans (hput.2.below (Nat.le_refl _) HB6.out.size)⟩
      rw [hprs.out, if_neg HZE.out]; rfl
  · have hk1 : (S.toList == [106, 111, 105, 110, 32, 48]) = false := by rw [ByteArray.toList_eq, HSD.out, h1]; decide
    have hk2 : (S.toList == [106, 111, 105, 110, 32, 48, 32, 119, 101, 105, 103, 104, 116, 32, 48]) = false := by rw [ByteArray.toList_eq, HSD.out, h1]; decide
    have hk3 : (S.toList == [114, 101, 109, 111, 118, 101, 32, 48]) = false := by rw [ByteArray.toList_eq, HSD.out, h1]; decide
    have hk4 : (S.toList == [119, 101, 105, 103, 104, 116, 32, 48, 32, 48]) = false := by rw [ByteArray.toList_eq, HSD.out, h1]; decide
    have hk5 : (S.toList == [114, 117, 108, 101, 32, 109, 97, 106, 111, 114, 105, 116, 121]) = false := by rw [ByteArray.toList_eq, HSD.out, h1]; decide
    have hk6 : (S.toList == [114, 117, 108, 101, 32, 119, 101, 105, 103, 104, 116, 101, 100]) = false := by rw [ByteArray.toList_eq, HSD.out, h1]; decide
    have hk7 : (S.toList == [114, 117, 108, 101, 32, 103, 114, 105, 100, 32, 48]) = true := by rw [ByteArray.toList_eq, HSD.out, h1]; decide
    have H3 := Lib.hid h3
    have H2 := Lib.hid h2
    clear h1 h3 h2
    have HO3 := Lib.hid (show RdI w3 (.slice na nl nc) [n0] by have := HO.out.rd; rwa [H2.out] at this)
    clear HO
    obtain ⟨p0, o0, hi, hpb0, hp0⟩ := atI HO3.out 0 n0 rfl
    have hi0 : ∀ w0, (Instr.indexAt 22 (.slice na nl nc) (.int .i64 0)).run Tryz.prog w0 = .ok (.pointer (some ⟨p0, o0, none⟩)) w0 := hi
    clear hi
    have HRC := Lib.hid (cRuleChange 3 n0 0 w3)
    go_wp2_with fail
    refine HRC.out.mono ?_
    rintro e w4 ⟨rfl, hb4⟩
    replace HC3 := Lib.hid (below_block HC3.out hb4)
    replace HR3 := Lib.hid (below_block HR3.out hb4)
    replace HB3 := Lib.hid (bnext HB3.out hb4)
    clear hb4 HRC
    obtain ⟨⟨c0, c1, c2, c3, c4, c5, c6⟩, f0, f1, f2, f3, f4, f5, f6⟩ := row7_atF HC3.out
    have hput := row7_putO HC3.out (.int .i64 4) (.int .i64 0) (.int .i64 0) (.int .i64 0) (.int .i64 3) (.int .i64 n0) (.int .i64 0)
    have HC5 := Lib.hid hput.1
    have HR5 := Lib.hid (hput.2.at HR3.out (by omega))
    have HB5 := Lib.hid (HB3.out.trans (hput.2.below (Nat.le_succ _) HB3.out.size))
    clear hput
    have HV := Lib.hid (fun w5 => cValidateV 4 0 0 0 3 n0 0 w5)
    obtain ⟨⟨c0, c1, c2, c3, c4, c5, c6⟩, g0, g1, g2, g3, g4, g5, g6⟩ := row7_atF HC5.out
    go_wp2_with fail
    refine (HV.out _).mono ?_
    rintro e w6 ⟨rfl, hb6⟩
    have HC6 := Lib.hid (below_block HC5.out hb6)
    have HR6 := Lib.hid (below_block HR5.out hb6)
    have HB6 := Lib.hid (bnext HB5.out hb6)
    clear c0 c1 c2 c3 c4 c5 c6 g0 g1 g2 g3 g4 g5 g6 hb6 HV HC5 HR5 HB5
    obtain ⟨⟨c0, c1, c2, c3, c4, c5, c6⟩, _⟩ := row7_atF HC6.out
    obtain ⟨⟨r0, r1, r2, r3, r4, r5, r6⟩, f0, f1, f2, f3, f4, f5, f6⟩ := row7_atF HR6.out
    have hprs : Hid (DM.prs l = if JM.errCh (DM.ver (4, 0, 0, 0, 3, n0, 0)) = 0 then ((4, 0, 0, 0, 3, n0, 0), 0) else (DM.zc, JM.errCh (DM.ver (4, 0, 0, 0, 3, n0, 0)))) := Lib.hid (by unfold DM.prs; rw [H3.out])
    obtain ⟨E, hE⟩ : ∃ E, E = JM.errCh (DM.ver (4, 0, 0, 0, 3, n0, 0)) := ⟨_, rfl⟩
    rw [← hE] at hprs ⊢
    clear hE
    by_cases hz : E = 0
    · subst hz
      go_wp2
      have hput := row7_putO HR6.out (.int .i64 4) (.int .i64 0) (.int .i64 0) (.int .i64 0) (.int .i64 3) (.int .i64 n0) (.int .i64 0)
      refine parse_ret rfl rfl hput.1 rfl ⟨?_, HB6.out.trans (hput.2.below (Nat.le_refl _) HB6.out.size)⟩
      rw [hprs.out]; first | (rw [if_pos rfl]; rfl) | (rw [if_pos trivial]; rfl)
    · have hne : (E != 0) = true := by simpa using hz
      have HZE := Lib.hid hz
      clear hz
      go_wp2
      have hput := row7_putO HR6.out (.int .i64 0) (.int .i64 0) (.int .i64 0) (.int .i64 0) (.int .i64 0) (.int .i64 0) (.int .i64 0)
      refine parse_ret rfl rfl hput.1 rfl ⟨?_, HB6.out.trans (hput.2.below (Nat.le_refl _) HB6.out.size)⟩
      rw [hprs.out, if_neg HZE.out]; rfl
  · have hk1 : (S.toList == [106, 111, 105, 110, 32, 48]) = false := by rw [ByteArray.toList_eq, HSD.out, h1]; decide
    have hk2 : (S.toList == [106, 111, 105, 110, 32, 48, 32, 119, 101, 105, 103, 104, 116, 32, 48]) = false := by rw [ByteArray.toList_eq, HSD.out, h1]; decide
    have hk3 : (S.toList == [114, 101, 109, 111, 118, 101, 32, 48]) = false := by rw [ByteArray.toList_eq, HSD.out, h1]; decide
    have hk4 : (S.toList == [119, 101, 105, 103, 104, 116, 32, 48, 32, 48]) = false := by rw [ByteArray.toList_eq, HSD.out, h1]; decide
    have hk5 : (S.toList == [114, 117, 108, 101, 32, 109, 97, 106, 111, 114, 105, 116, 121]) = false := by rw [ByteArray.toList_eq, HSD.out, h1]; decide
    have hk6 : (S.toList == [114, 117, 108, 101, 32, 119, 101, 105, 103, 104, 116, 101, 100]) = false := by rw [ByteArray.toList_eq, HSD.out, h1]; decide
    have hk7 : (S.toList == [114, 117, 108, 101, 32, 103, 114, 105, 100, 32, 48]) = false := by rw [ByteArray.toList_eq, HSD.out, h1]; decide
    have hk8 : (S.toList == [114, 117, 108, 101, 32, 109, 97, 115, 107, 105, 110, 103, 32, 48]) = true := by rw [ByteArray.toList_eq, HSD.out, h1]; decide
    have H3 := Lib.hid h3
    have H2 := Lib.hid h2
    clear h1 h3 h2
    have HO3 := Lib.hid (show RdI w3 (.slice na nl nc) [n0] by have := HO.out.rd; rwa [H2.out] at this)
    clear HO
    obtain ⟨p0, o0, hi, hpb0, hp0⟩ := atI HO3.out 0 n0 rfl
    have hi0 : ∀ w0, (Instr.indexAt 22 (.slice na nl nc) (.int .i64 0)).run Tryz.prog w0 = .ok (.pointer (some ⟨p0, o0, none⟩)) w0 := hi
    clear hi
    have HRC := Lib.hid (cRuleChange 4 0 n0 w3)
    go_wp2_with fail
    refine HRC.out.mono ?_
    rintro e w4 ⟨rfl, hb4⟩
    replace HC3 := Lib.hid (below_block HC3.out hb4)
    replace HR3 := Lib.hid (below_block HR3.out hb4)
    replace HB3 := Lib.hid (bnext HB3.out hb4)
    clear hb4 HRC
    obtain ⟨⟨c0, c1, c2, c3, c4, c5, c6⟩, f0, f1, f2, f3, f4, f5, f6⟩ := row7_atF HC3.out
    have hput := row7_putO HC3.out (.int .i64 4) (.int .i64 0) (.int .i64 0) (.int .i64 0) (.int .i64 4) (.int .i64 0) (.int .i64 n0)
    have HC5 := Lib.hid hput.1
    have HR5 := Lib.hid (hput.2.at HR3.out (by omega))
    have HB5 := Lib.hid (HB3.out.trans (hput.2.below (Nat.le_succ _) HB3.out.size))
    clear hput
    have HV := Lib.hid (fun w5 => cValidateV 4 0 0 0 4 0 n0 w5)
    obtain ⟨⟨c0, c1, c2, c3, c4, c5, c6⟩, g0, g1, g2, g3, g4, g5, g6⟩ := row7_atF HC5.out
    go_wp2_with fail
    refine (HV.out _).mono ?_
    rintro e w6 ⟨rfl, hb6⟩
    have HC6 := Lib.hid (below_block HC5.out hb6)
    have HR6 := Lib.hid (below_block HR5.out hb6)
    have HB6 := Lib.hid (bnext HB5.out hb6)
    clear c0 c1 c2 c3 c4 c5 c6 g0 g1 g2 g3 g4 g5 g6 hb6 HV HC5 HR5 HB5
    obtain ⟨⟨c0, c1, c2, c3, c4, c5, c6⟩, _⟩ := row7_atF HC6.out
    obtain ⟨⟨r0, r1, r2, r3, r4, r5, r6⟩, f0, f1, f2, f3, f4, f5, f6⟩ := row7_atF HR6.out
    have hprs : Hid (DM.prs l = if JM.errCh (DM.ver (4, 0, 0, 0, 4, 0, n0)) = 0 then ((4, 0, 0, 0, 4, 0, n0), 0) else (DM.zc, JM.errCh (DM.ver (4, 0, 0, 0, 4, 0, n0)))) := Lib.hid (by unfold DM.prs; rw [H3.out])
    obtain ⟨E, hE⟩ : ∃ E, E = JM.errCh (DM.ver (4, 0, 0, 0, 4, 0, n0)) := ⟨_, rfl⟩
    rw [← hE] at hprs ⊢
    clear hE
    by_cases hz : E = 0
    · subst hz
      go_wp2
      have hput := row7_putO HR6.out (.int .i64 4) (.int .i64 0) (.int .i64 0) (.int .i64 0) (.int .i64 4) (.int .i64 0) (.int .i64 n0)
      refine parse_ret rfl rfl hput.1 rfl ⟨?_, HB6.out.trans (hput.2.below (Nat.le_refl _) HB6.out.size)⟩
      rw [hprs.out]; first | (rw [if_pos rfl]; rfl) | (rw [if_pos trivial]; rfl)
    · have hne : (E != 0) = true := by simpa using hz
      have HZE := Lib.hid hz
      clear hz
      go_wp2
      have hput := row7_putO HR6.out (.int .i64 0) (.int .i64 0) (.int .i64 0) (.int .i64 0) (.int .i64 0) (.int .i64 0) (.int .i64 0)
      refine parse_ret rfl rfl hput.1 rfl ⟨?_, HB6.out.trans (hput.2.below (Nat.le_refl _) HB6.out.size)⟩
      rw [hprs.out, if_neg HZE.out]; rfl
  · have hk1 : (S.toList == [106, 111, 105, 110, 32, 48]) = false := by rw [ByteArray.toList_eq, HSD.out]; exact beq_eq_false_iff_ne.2 h1
    have hk2 : (S.toList == [106, 111, 105, 110, 32, 48, 32, 119, 101, 105, 103, 104, 116, 32, 48]) = false := by rw [ByteArray.toList_eq, HSD.out]; exact beq_eq_false_iff_ne.2 h2
    have hk3 : (S.toList == [114, 101, 109, 111, 118, 101, 32, 48]) = false := by rw [ByteArray.toList_eq, HSD.out]; exact beq_eq_false_iff_ne.2 h3
    have hk4 : (S.toList == [119, 101, 105, 103, 104, 116, 32, 48, 32, 48]) = false := by rw [ByteArray.toList_eq, HSD.out]; exact beq_eq_false_iff_ne.2 h4
    have hk5 : (S.toList == [114, 117, 108, 101, 32, 109, 97, 106, 111, 114, 105, 116, 121]) = false := by rw [ByteArray.toList_eq, HSD.out]; exact beq_eq_false_iff_ne.2 h5
    have hk6 : (S.toList == [114, 117, 108, 101, 32, 119, 101, 105, 103, 104, 116, 101, 100]) = false := by rw [ByteArray.toList_eq, HSD.out]; exact beq_eq_false_iff_ne.2 h6
    have hk7 : (S.toList == [114, 117, 108, 101, 32, 103, 114, 105, 100, 32, 48]) = false := by rw [ByteArray.toList_eq, HSD.out]; exact beq_eq_false_iff_ne.2 h7
    have hk8 : (S.toList == [114, 117, 108, 101, 32, 109, 97, 115, 107, 105, 110, 103, 32, 48]) = false := by rw [ByteArray.toList_eq, HSD.out]; exact beq_eq_false_iff_ne.2 h8
    have H := Lib.hid h
    clear h1 h2 h3 h4 h5 h6 h7 h8 h
    obtain ⟨⟨r0, r1, r2, r3, r4, r5, r6⟩, f0, f1, f2, f3, f4, f5, f6⟩ := row7_atF HR3.out
    have hprs : Hid (DM.prs l = (DM.zc, 11)) := Lib.hid (by unfold DM.prs; rw [H.out])
    go_wp2
    have hput := row7_putO HR3.out (.int .i64 0) (.int .i64 0) (.int .i64 0) (.int .i64 0) (.int .i64 0) (.int .i64 0) (.int .i64 0)
    refine parse_ret rfl rfl hput.1 rfl ⟨?_, HB3.out.trans (hput.2.below (Nat.le_refl _) HB3.out.size)⟩
    rw [hprs.out]; rfl

end Go.Proofs.YthgnhaimdkcmeaaGreatDoor
