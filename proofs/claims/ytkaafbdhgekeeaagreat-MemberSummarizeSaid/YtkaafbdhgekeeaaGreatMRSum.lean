/-
  The calls of the reference's Summarize: the joins of the summaries, one after the other. Conditions: the genesis and the configuration are valid.
-/
import Derived.Test.YtkaafbdhgekeeaaGreatMRJn
import Derived.Test.YtkaafbdhgekeeaaGreatMUni
namespace Go.Proofs.YtkaafbdhgekeeaaGreat
open Go.RowKit Go.Joins
open JM (Chg)
open MM (Mem Ent Sm Tri)

/-! What reads on while the blocks of L are written. -/
def Ecx (L : List Nat) (w w' : World) : Prop := w.heap.size ≤ w'.heap.size ∧ ∀ k, k < w.heap.size → k ∉ L → w'.heap[k]? = w.heap[k]?
def RlS (L : List Nat) (w : World) (v : Value) (s : Sm) : Prop := ∀ w', Ecx L w w' → RdS w' v s
theorem Ecx.refl (L : List Nat) (w : World) : Ecx L w w := ⟨Nat.le_refl _, fun _ _ _ => rfl⟩
theorem Ecx.trans {L : List Nat} {a b c : World} (h : Ecx L a b) (k : Ecx L b c) : Ecx L a c :=
  ⟨Nat.le_trans h.1 k.1, fun i h1 h2 => (k.2 i (Nat.lt_of_lt_of_le h1 h.1) h2).trans (h.2 i h1 h2)⟩
theorem Ecx.of {L : List Nat} {w w' : World} (hb : Below w.heap.size w w') : Ecx L w w' := ⟨hb.size, fun i h1 _ => hb.block i h1⟩
theorem Ecx.put {L : List Nat} {g : Nat} {w w' : World} (ho : Only g w w') (hg : g ∈ L) : Ecx L w w' := ⟨ho.size, fun i h1 h2 => ho.block i h1 (fun e => h2 (e ▸ hg))⟩
theorem RlS.next {L : List Nat} {w w' : World} {v : Value} {s : Sm} (h : RlS L w v s) (he : Ecx L w w') : RlS L w' v s := fun w'' h2 => h w'' (he.trans h2)
theorem RlS.rd {L : List Nat} {w : World} {v : Value} {s : Sm} (h : RlS L w v s) : RdS w v s := h w (Ecx.refl _ _)

theorem rsumm_ret {R : Ending → World → Prop} {a : Act} {w : World} {g : Nat} {x y z : Value} {k c f v a' n : Int} (hp : a.tmps.getD 4 undef = .pointer (some ⟨g, 0, none⟩)) (hg : w.heap[g]? = some (.cells (s9 x y z k c f v a' n) 37 (0, 0)))
    (hd : a.defers = []) (hR : R (.returned (sv x y z k c f v a' n)) w) : bodyPost Tryz.prog Tryz.f9 R .ret a w :=
  bodyPost_ret (results_cell_row (P := Tryz.prog) rfl a.tmps w g 37 _ _ _ hp hg Tryz.underlying37 rfl (by kernel_rfl)) hd hR

set_option maxRecDepth 100000 in
set_option maxHeartbeats 4000000 in
theorem rSummarize (u v : Value) (k c f : Int) (ms : List Mem) (fs : List MM.Prp) (w : World) (hu : RdM w u ms) (h : RdF w v fs) (hg : MM.errG k c f ms = 0) (hml : ms.length ≤ 1000000) (hv : ∀ x ∈ fs, JM.errP x.1 x.2.1 x.2.2 = 0) (hl : fs.length ≤ 1000000) :
    Calls Tryz.prog 9 #[vw u k c f, v] w fun e w' => ∃ v', e = .returned v' ∧ RdS w' v' (MM.summR ms k c f fs) ∧ Below w.heap.size w w' := by
  obtain ⟨g1, g2, _⟩ := MM.errG_zero hg
  obtain ⟨w1, hw1, hB1, hsz1, hZ1⟩ : ∃ w1, (w.alloc (.cells #[u, .int .i64 k, .int .i64 c, .int .i64 f] 26)).alloc zBox = w1 ∧ Below w.heap.size w w1 ∧ w1.heap.size = w.heap.size + 2 ∧ w1.heap[w.heap.size + 1]? = some zBox :=
    ⟨_, rfl, bnext (below_fresh _ _) (below_fresh _ _), by simp, by rw [← World.size_alloc w (.cells #[u, .int .i64 k, .int .i64 c, .int .i64 f] 26)]; exact heap_alloc_new _ _⟩
  have hG1 : w1.heap[w.heap.size]? = some (.cells #[u, .int .i64 k, .int .i64 c, .int .i64 f] 26 (0, 0)) := by rw [← hw1]; exact below_block (heap_alloc_new w _) (below_fresh _ _)
  obtain ⟨⟨q0, q1, q2, q3⟩, _⟩ := row4_at hG1
  obtain ⟨ua, uc, rfl, _, _⟩ := hu.shape
  obtain ⟨va, vc, rfl, _, _⟩ := h.shape
  have HI := Lib.hid (rInitial _ k c f ms w1 (hu.below hB1) hml)
  obtain ⟨F, hF⟩ : ∃ F : Nat → Sm, F = fun j => MM.summR ms k c f (fs.take j) := ⟨_, rfl⟩
  have hF0 : F 0 = MM.ini ms k c f := by rw [hF]; rfl
  have hFN : F fs.length = MM.summR ms k c f fs := by rw [hF]; simp [List.take_length]
  have HFS := Lib.hid (show ∀ j (hj : j < fs.length), F (j + 1) = MM.join (F j) (MM.ofP fs[j].1 fs[j].2.1 fs[j].2.2) from fun j hj => by
    rw [hF]; simp only [MM.summR]; rw [List.take_succ_eq_append_getElem hj, List.foldl_append]; rfl)
  have HOK := Lib.hid (show ∀ j, MM.OkS (F j) from fun j => by rw [hF]; exact (MM.sp_summR g1 g2 (fun x hx => hv x (List.mem_of_mem_take hx))).ok)
  rw [← hFN]
  rw [← hF0] at HI
  have HH := Lib.hid h
  have HV := Lib.hid (show ∀ j (hj : j < fs.length), JM.errP fs[j].1 fs[j].2.1 fs[j].2.2 = 0 from fun j hj => hv _ (List.getElem_mem hj))
  have HB1 := Lib.hid hB1
  have HZ1 := Lib.hid hZ1
  have HSZ := Lib.hid hsz1
  have HW1 := Lib.hid hw1
  have hlen : (fs.length : Int) ≤ 1000000 := by omega
  clear hu h hg hv hl hml hB1 hsz1 hZ1 hG1 hw1 g1 g2 hF hF0 hFN
  go_enter Tryz.func9, Tryz.ntmps9
  go_wp2_with fail
  rw [HW1.out]
  go_wp2_with fail
  refine HI.out.mono ?_
  rintro e wi ⟨v1, rfl, hr1, hq1⟩
  have HB2 := Lib.hid (bnext HB1.out hq1)
  have HZ2 := Lib.hid (below_block HZ1.out hq1)
  obtain ⟨ax, lx, cx, ay, ly, cy, az, lz, cz, hv1⟩ := hr1.rd.shape
  subst hv1
  obtain ⟨S0, hS0⟩ : ∃ o, o = Obj.cells (s9 (.slice ax lx cx) (.slice ay ly cy) (.slice az lz cz) (F 0).k (F 0).c (F 0).f (F 0).v (F 0).a (F 0).n) 37 := ⟨_, rfl⟩
  have hb3 := below_fresh wi S0
  have hx3 := heap_alloc_new wi S0
  obtain ⟨X, hX⟩ : ∃ X, X = wi.heap.size := ⟨_, rfl⟩
  have hzx : w.heap.size + 1 < X := by have := hq1.size; have := HSZ.out; omega
  have hrl : RlS [w.heap.size + 1, X] (wi.alloc S0) (sv (.slice ax lx cx) (.slice ay ly cy) (.slice az lz cz) (F 0).k (F 0).c (F 0).f (F 0).v (F 0).a (F 0).n) (F 0) := by
    intro w'' he
    refine hr1 w'' ⟨Nat.le_trans hb3.size he.1, fun i h1 h2 => (he.2 i (Nat.lt_of_lt_of_le h2 hb3.size) (fun hi => ?_)).trans (hb3.block i h2)⟩
    have hs := HSZ.out
    simp only [List.mem_cons, List.mem_nil_iff, or_false] at hi
    omega
  rw [← hX] at hx3
  have HB3 := Lib.hid (bnext HB2.out hb3)
  have HZ3 := Lib.hid (below_block HZ2.out hb3)
  have hxl : X < (wi.alloc S0).heap.size := by rw [hX]; simp
  generalize hw3 : wi.alloc S0 = w3 at hx3 HB3 HZ3 hrl hxl
  rw [hS0] at hx3 hw3
  have HX3 := Lib.hid hx3
  have HW3 := Lib.hid hw3
  have HRL := Lib.hid hrl
  have HXL := Lib.hid hxl
  have HXE := Lib.hid hX
  have HZX := Lib.hid hzx
  clear hr1 hq1 HI q0 q1 q2 q3 hb3 hx3 hrl hw3 hX hS0 S0 hxl hzx HB2 HZ2 HB1 HZ1 HW1
  go_upto_region 2 with fail
  rw [HW3.out, ← HXE.out]
  clear HW3 HXE
  go_wp2
  go_loopw [6] (fun i wr => ∃ (j : Nat) (x y z : Value), j ≤ fs.length ∧ i = .int .i64 j ∧ Hid (Below w.heap.size w wr) ∧ Hid (wr.heap[w.heap.size + 1]? = some zBox) ∧ Hid (wr.heap[X]? = some (.cells (s9 x y z (F j).k (F j).c (F j).f (F j).v (F j).a (F j).n) 37 (0, 0))) ∧ Hid (RlS [w.heap.size + 1, X] wr (sv x y z (F j).k (F j).c (F j).f (F j).v (F j).a (F j).n) (F j))) (fun i _ => fs.length - (intOf i).toNat)
  case atStart => exact ⟨0, _, _, _, Nat.zero_le _, rfl, HB3, HZ3, HX3, HRL⟩
  case round =>
    obtain ⟨j, x, y, z, hj, rfl, hB, hZ, hXc, hR⟩ := hrel
    clear HB3 HZ3 HX3 HRL
    obtain ⟨ax, lx, cx, ay, ly, cy, az, lz, cz, hvs⟩ := hR.out.rd.shape
    have hvs := hvs
    unfold sv at hvs
    injection hvs with hvs
    injection hvs with hvs
    injection hvs with e0 hvs
    injection hvs with e1 hvs
    injection hvs with e2 hvs
    subst e0 e1 e2
    clear hvs
    by_cases hlt : j < fs.length
    · have hq : (j : Int) < (fs.length : Int) := by omega
      have HN := Lib.hid (HFS.out j hlt)
      have hvj := HV.out j hlt
      obtain ⟨b, o, sa, slen, sc, hi, hb, c0, c1, c2, hrc⟩ := HH.out.at_ j fs[j].1 fs[j].2.1 fs[j].2.2 (by rw [List.getElem?_eq_getElem hlt])
      have HOF := Lib.hid (fun wa (hb : Below wr.heap.size wr wa) => rOf fs[j].1 fs[j].2.1 _ fs[j].2.2 wa (hrc.below (bnext hB.out hb)) hvj)
      have hok2 := MM.okS_ofP hvj
      generalize MM.ofP fs[j].1 fs[j].2.1 fs[j].2.2 = T at HN HOF hok2
      have HJN := Lib.hid (fun (va vb : Value) wa (h1 : RdS wa va (F j)) (h2 : RdS wa vb T) => rJoin va vb (F j) T wa h1 h2 (HOK.out j) hok2)
      rw [← HN.out] at HJN
      have HC := Lib.hid (And.intro c0 (And.intro c1 c2))
      have HIX := Lib.hid hi
      have HXW := Lib.hid (Array.getElem?_eq_some_iff.1 hXc.out).1
      generalize fs[j].1 = ad at HC HOF
      generalize fs[j].2.1 = nu at HC HOF
      clear hvj hok2 hb c0 c1 c2 hrc hi HN HFS HV
      go_wp2_with fail
      have hdr : Below w.heap.size w wr.drew := hB.out.drew
      refine wp_region_held_drew (S := fun w' => Below w.heap.size w w') (by kernel_rfl) hdr (fun _ => ?_)
      replace hdr : Below w.heap.size w wr.drew := hB.out.drew
      have ha : Below wr.heap.size wr wr.drew := (Below.refl _ _).drew
      have hXc2 := Lib.hid (show wr.drew.heap[X]? = _ from hXc.out)
      generalize wr.drew = wa at ha hdr hXc2 ⊢
      refine takeH (i := 1) (v := ?_) rfl (by kernel_rfl) (by kernel_rfl) (by kernel_rfl) (fun _ _ _ h => h) (Or.inl ⟨by rfl, ?_⟩) (by assumption) ?_
      rotate_left
      · (intro w hSw; (try dsimp only at hSw); go_simp; first | done | with_reducible rfl)
      (try simp only [Act.put, List.setIfInBounds_toArray, List.set_cons_zero, List.set_cons_succ])
      refine takeH (i := 2) (v := ?_) rfl (by kernel_rfl) (by kernel_rfl) (by kernel_rfl) (fun _ _ _ h => h) (Or.inl ⟨by rfl, ?_⟩) (by assumption) ?_
      rotate_left
      · (intro w hSw; (try dsimp only at hSw); go_simp; first | done | with_reducible rfl)
      (try simp only [Act.put, List.setIfInBounds_toArray, List.set_cons_zero, List.set_cons_succ])
      refine takeH (i := 3) (v := ?_) rfl (by kernel_rfl) (by kernel_rfl) (by kernel_rfl) (fun _ _ _ h => h) (Or.inl ⟨by rfl, ?_⟩) (by assumption) ?_
      rotate_left
      · (intro w0 hSw; (try dsimp only at hSw); have hi0 := HIX.out w0; go_simp; first | done | with_reducible rfl)
      (try simp only [Act.put, List.setIfInBounds_toArray, List.set_cons_zero, List.set_cons_succ])
      refine takeH (i := 4) (v := ?_) rfl (by kernel_rfl) (by kernel_rfl) (by kernel_rfl) (fun _ _ _ h => h) (Or.inl ⟨by rfl, ?_⟩) (by assumption) ?_
      rotate_left
      · (intro w0 hSw; (try dsimp only at hSw); have c0 := below_cell hSw HC.out.1; have c1 := below_cell hSw HC.out.2.1; have c2 := below_cell hSw HC.out.2.2; go_simp; first | done | with_reducible rfl)
      (try simp only [Act.put, List.setIfInBounds_toArray, List.set_cons_zero, List.set_cons_succ])
      refine wpAnyH_ready (rs := [0, 5]) (by kernel_rfl) (by simp) ?_
      refine (stepH rfl (fun K hK => ?_) (stepH rfl (fun K hK => ?_) AllReadyH.nil))
      · obtain ⟨⟨s0, s1, s2, s3, s4, s5, s6, s7, s8⟩, _⟩ := row9_at hXc2.out
        go_simp
        refine hK.out _ _ (hdr) (fun _ => ?_)
        clear hK K
        (try simp only [Act.put, List.setIfInBounds_toArray, List.set_cons_zero, List.set_cons_succ])
        clear s0 s1 s2 s3 s4 s5 s6 s7 s8
        refine wpAnyH_ready (rs := [5]) (by kernel_rfl) (by simp) ?_
        refine stepH rfl (fun K hK => ?_) AllReadyH.nil
        go_simp
        refine (HOF.out wa ha).mono ?_
        rintro e wb ⟨v2, rfl, hr2, hq⟩
        have hb := bnext ha hq
        have hr2 := hr2.rd
        have hr1 := (hR.out.next (Ecx.of hb)).rd
        have hXb := below_block hXc.out hb
        clear hq
        go_wp2_with fail
        refine hK.out _ _ (bnext hB.out hb) (fun _ => ?_)
        clear hK K
        (try simp only [Act.put, List.setIfInBounds_toArray, List.set_cons_zero, List.set_cons_succ])
        refine wpAnyH_ready (rs := [6]) (by kernel_rfl) (by simp) ?_
        refine stepH rfl (fun K hK => ?_) AllReadyH.nil
        go_simp
        refine (HJN.out _ v2 wb hr1 hr2).mono ?_
        rintro e wc ⟨v3, rfl, hr3, hq⟩
        have hc := bnext hb hq
        have hrd3 := hr3 wc (Fr.refl _ _) (hR.out.next (Ecx.of hc)).rd
        obtain ⟨ax', lx', cx', ay', ly', cy', az', lz', cz', hv3⟩ := hrd3.shape
        subst hv3
        have HR3 := Lib.hid hr3
        have HBL := Lib.hid hb.size
        clear hr3 hr1 hr2 hq hrd3
        go_wp2_with fail
        refine hK.out _ _ (bnext hB.out hc) (fun _ => ?_)
        clear hK K
        (try simp only [Act.put, List.setIfInBounds_toArray, List.set_cons_zero, List.set_cons_succ])
        have HX4 := Lib.hid (below_block hXc.out hc)
        obtain ⟨⟨z0, z1, z2, z3, z4, z5, z6, z7, z8⟩, f0, f1, f2, f3, f4, f5, f6, f7, f8⟩ := row9_at HX4.out
        have hput := row9_put HX4.out (.slice ax' lx' cx') (.slice ay' ly' cy') (.slice az' lz' cz') (.int .i64 (F (j + 1)).k) (.int .i64 (F (j + 1)).c) (.int .i64 (F (j + 1)).f) (.int .i64 (F (j + 1)).v) (.int .i64 (F (j + 1)).a) (.int .i64 (F (j + 1)).n) w.heap.size (by have := HZX.out; omega)
        have hon := onlyc9 (w := wc) (g := X) (.slice ax' lx' cx') (.slice ay' ly' cy') (.slice az' lz' cz') (.int .i64 (F (j + 1)).k) (.int .i64 (F (j + 1)).c) (.int .i64 (F (j + 1)).f) (.int .i64 (F (j + 1)).v) (.int .i64 (F (j + 1)).a) (.int .i64 (F (j + 1)).n)
        have HPUT := Lib.hid hput.1
        have HEND := Lib.hid ((bnext hB.out hc).trans hput.2)
        have HZE := Lib.hid (hon.at (below_block hZ.out hc) (by have := HZX.out; omega))
        have HFIN := Lib.hid (show RlS [w.heap.size + 1, X] _ _ (F (j + 1)) from fun w'' he => HR3.out w'' ((Fr.only (B := wb.heap.size) hon (Nat.lt_of_lt_of_le HXW.out HBL.out)).trans ⟨he.1, fun i h1 h2 => he.2 i h2 (fun hi => by
          have := HXW.out; have := HBL.out; have := HZX.out
          simp only [List.mem_cons, List.mem_nil_iff, or_false] at hi
          omega)⟩) (hR.out w'' ((Ecx.of hc).trans ((Ecx.put hon (by simp)).trans he))))
        clear hput hon HX4
        have hSt : Below wr.heap.size wr wr := Below.refl _ _
        refine wpAnyH_ready (rs := [7]) (by kernel_rfl) (by simp) ?_
        refine stepH rfl (fun K hK => ?_) AllReadyH.nil
        go_simp
        refine hK.out _ _ (HEND.out) (fun _ => ?_)
        clear hK K
        (try simp only [Act.put, List.setIfInBounds_toArray, List.set_cons_zero, List.set_cons_succ])
        refine wpAnyH_done (by kernel_rfl) ?_ _
        clear z0 z1 z2 z3 z4 z5 z6 z7 z8 f0 f1 f2 f3 f4 f5 f6 f7 f8
        go_wp2
        go_roundw
        case rel => exact ⟨j + 1, _, _, _, by omega, by go_num, HEND, HZE, HPUT, HFIN⟩
        case measure => simp [intOf]; omega
      · go_simp
        refine (HOF.out wa ha).mono ?_
        rintro e wb ⟨v2, rfl, hr2, hq⟩
        have hb := bnext ha hq
        have hr2 := hr2.rd
        have hr1 := (hR.out.next (Ecx.of hb)).rd
        have hXb := below_block hXc.out hb
        clear hq
        go_wp2_with fail
        refine hK.out _ _ (bnext hB.out hb) (fun _ => ?_)
        clear hK K
        (try simp only [Act.put, List.setIfInBounds_toArray, List.set_cons_zero, List.set_cons_succ])
        refine wpAnyH_ready (rs := [0]) (by kernel_rfl) (by simp) ?_
        refine stepH rfl (fun K hK => ?_) AllReadyH.nil
        obtain ⟨⟨s0, s1, s2, s3, s4, s5, s6, s7, s8⟩, _⟩ := row9_at hXb
        go_simp
        refine hK.out _ _ (bnext hB.out hb) (fun _ => ?_)
        clear hK K
        (try simp only [Act.put, List.setIfInBounds_toArray, List.set_cons_zero, List.set_cons_succ])
        clear s0 s1 s2 s3 s4 s5 s6 s7 s8
        refine wpAnyH_ready (rs := [6]) (by kernel_rfl) (by simp) ?_
        refine stepH rfl (fun K hK => ?_) AllReadyH.nil
        go_simp
        refine (HJN.out _ v2 wb hr1 hr2).mono ?_
        rintro e wc ⟨v3, rfl, hr3, hq⟩
        have hc := bnext hb hq
        have hrd3 := hr3 wc (Fr.refl _ _) (hR.out.next (Ecx.of hc)).rd
        obtain ⟨ax', lx', cx', ay', ly', cy', az', lz', cz', hv3⟩ := hrd3.shape
        subst hv3
        have HR3 := Lib.hid hr3
        have HBL := Lib.hid hb.size
        clear hr3 hr1 hr2 hq hrd3
        go_wp2_with fail
        refine hK.out _ _ (bnext hB.out hc) (fun _ => ?_)
        clear hK K
        (try simp only [Act.put, List.setIfInBounds_toArray, List.set_cons_zero, List.set_cons_succ])
        have HX4 := Lib.hid (below_block hXc.out hc)
        obtain ⟨⟨z0, z1, z2, z3, z4, z5, z6, z7, z8⟩, f0, f1, f2, f3, f4, f5, f6, f7, f8⟩ := row9_at HX4.out
        have hput := row9_put HX4.out (.slice ax' lx' cx') (.slice ay' ly' cy') (.slice az' lz' cz') (.int .i64 (F (j + 1)).k) (.int .i64 (F (j + 1)).c) (.int .i64 (F (j + 1)).f) (.int .i64 (F (j + 1)).v) (.int .i64 (F (j + 1)).a) (.int .i64 (F (j + 1)).n) w.heap.size (by have := HZX.out; omega)
        have hon := onlyc9 (w := wc) (g := X) (.slice ax' lx' cx') (.slice ay' ly' cy') (.slice az' lz' cz') (.int .i64 (F (j + 1)).k) (.int .i64 (F (j + 1)).c) (.int .i64 (F (j + 1)).f) (.int .i64 (F (j + 1)).v) (.int .i64 (F (j + 1)).a) (.int .i64 (F (j + 1)).n)
        have HPUT := Lib.hid hput.1
        have HEND := Lib.hid ((bnext hB.out hc).trans hput.2)
        have HZE := Lib.hid (hon.at (below_block hZ.out hc) (by have := HZX.out; omega))
        have HFIN := Lib.hid (show RlS [w.heap.size + 1, X] _ _ (F (j + 1)) from fun w'' he => HR3.out w'' ((Fr.only (B := wb.heap.size) hon (Nat.lt_of_lt_of_le HXW.out HBL.out)).trans ⟨he.1, fun i h1 h2 => he.2 i h2 (fun hi => by
          have := HXW.out; have := HBL.out; have := HZX.out
          simp only [List.mem_cons, List.mem_nil_iff, or_false] at hi
          omega)⟩) (hR.out w'' ((Ecx.of hc).trans ((Ecx.put hon (by simp)).trans he))))
        clear hput hon HX4
        have hSt : Below wr.heap.size wr wr := Below.refl _ _
        refine wpAnyH_ready (rs := [7]) (by kernel_rfl) (by simp) ?_
        refine stepH rfl (fun K hK => ?_) AllReadyH.nil
        go_simp
        refine hK.out _ _ (HEND.out) (fun _ => ?_)
        clear hK K
        (try simp only [Act.put, List.setIfInBounds_toArray, List.set_cons_zero, List.set_cons_succ])
        refine wpAnyH_done (by kernel_rfl) ?_ _
        clear z0 z1 z2 z3 z4 z5 z6 z7 z8 f0 f1 f2 f3 f4 f5 f6 f7 f8
        go_wp2
        go_roundw
        case rel => exact ⟨j + 1, _, _, _, by omega, by go_num, HEND, HZE, HPUT, HFIN⟩
        case measure => simp [intOf]; omega
    · have hq : ¬ ((j : Int) < (fs.length : Int)) := by omega
      obtain rfl : j = fs.length := by omega
      obtain ⟨⟨s0, s1, s2, s3, s4, s5, s6, s7, s8⟩, _⟩ := row9_at hXc.out
      obtain ⟨⟨z0, z1, z2, z3, z4, z5, z6, z7, z8⟩, f0, f1, f2, f3, f4, f5, f6, f7, f8⟩ := row9_at hZ.out
      go_wp2
      have hput := row9_put hZ.out (.slice ax lx cx) (.slice ay ly cy) (.slice az lz cz) (.int .i64 (F fs.length).k) (.int .i64 (F fs.length).c) (.int .i64 (F fs.length).f) (.int .i64 (F fs.length).v) (.int .i64 (F fs.length).a) (.int .i64 (F fs.length).n) w.heap.size (by omega)
      have hon := onlyc9 (w := wr) (g := w.heap.size + 1) (.slice ax lx cx) (.slice ay ly cy) (.slice az lz cz) (.int .i64 (F fs.length).k) (.int .i64 (F fs.length).c) (.int .i64 (F fs.length).f) (.int .i64 (F fs.length).v) (.int .i64 (F fs.length).a) (.int .i64 (F fs.length).n)
      exact rsumm_ret rfl hput.1 rfl ⟨_, rfl, (hR.out.next (Ecx.put hon (by simp))).rd, hB.out.trans hput.2⟩

end Go.Proofs.YtkaafbdhgekeeaaGreat
