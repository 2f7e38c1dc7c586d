/-
  The calls of joinAll and Summarize: the summary of a genesis and a configuration. Conditions: both are valid.
-/
import Derived.Test.YtkaafbdhgekeeaaGreatMOf
import Derived.Test.YtkaafbdhgekeeaaGreatMJoin
import Derived.Test.YtkaafbdhgekeeaaGreatMUni
namespace Go.Proofs.YtkaafbdhgekeeaaGreat
open Go.RowKit Go.Joins
open JM (Chg)
open MM (Mem Ent Sm Tri)

theorem srt_len {α : Type} {key : α → Int} {l : List α} : ∀ {a : Int}, MM.Srt key l → (∀ x ∈ l, a ≤ key x ∧ key x ≤ 12) → a ≤ 13 → (l.length : Int) ≤ 13 - a := by
  induction l with
  | nil => intro a _ _ h; simpa using (by omega : (0 : Int) ≤ 13 - a)
  | cons x l ih =>
    intro a h hx ha
    have h1 := hx x (by simp)
    have h2 := ih (a := key x + 1) (h.tl key) (fun y hy => ⟨h.hd key y hy, (hx y (by simp [hy])).2⟩) (by omega)
    rw [List.length_cons]
    omega
theorem okS_len {s : Sm} (h : MM.OkS s) : s.J.length ≤ 1000000 ∧ s.R.length ≤ 1000000 ∧ s.W.length ≤ 1000000 := by
  have h1 := srt_len (a := 1) h.j (fun x hx => h.js x hx) (by decide)
  have h2 := srt_len (a := 1) h.r (fun x hx => h.rs x hx) (by decide)
  have h3 := srt_len (a := 1) h.w (fun x hx => (h.ws x hx).1) (by decide)
  omega
theorem okS_jall {n : Nat} {fs : List MM.Prp} (hn : fs.length ≤ n) (h : ∀ x ∈ fs, JM.errP x.1 x.2.1 x.2.2 = 0) : MM.OkS (MM.jall n fs) := (MM.sp_jall n fs hn h).ok

/-- What a summary's value looks like. -/
theorem RdS.shape {w : World} {v : Value} {s : Sm} (h : RdS w v s) : ∃ (ax : Option Addr) (lx cx : Nat) (ay : Option Addr) (ly cy : Nat) (az : Option Addr) (lz cz : Nat), v = sv (.slice ax lx cx) (.slice ay ly cy) (.slice az lz cz) s.k s.c s.f s.v s.a s.n := by
  obtain ⟨x, y, z, rfl, h1, h2, h3⟩ := h
  obtain ⟨ax, cx, rfl, _⟩ := h1.shape
  obtain ⟨ay, cy, rfl, _⟩ := h2.shape
  obtain ⟨az, cz, rfl, _⟩ := h3.shape
  exact ⟨_, _, _, _, _, _, _, _, _, rfl⟩
theorem jall_ret {R : Ending → World → Prop} {a : Act} {w : World} {g : Nat} {x y z : Value} {k c f v a' n : Int} (hp : a.tmps.getD 2 undef = .pointer (some ⟨g, 0, none⟩)) (hg : w.heap[g]? = some (.cells (s9 x y z k c f v a' n) 37 (0, 0)))
    (hd : a.defers = []) (hR : R (.returned (sv x y z k c f v a' n)) w) : bodyPost Tryz.prog Tryz.f23 R .ret a w :=
  bodyPost_ret (results_cell_row (P := Tryz.prog) rfl a.tmps w g 37 _ _ _ hp hg Tryz.underlying37 rfl (by kernel_rfl)) hd hR
theorem summ_ret {R : Ending → World → Prop} {a : Act} {w : World} {g : Nat} {x y z : Value} {k c f v a' n : Int} (hp : a.tmps.getD 4 undef = .pointer (some ⟨g, 0, none⟩)) (hg : w.heap[g]? = some (.cells (s9 x y z k c f v a' n) 37 (0, 0)))
    (hd : a.defers = []) (hR : R (.returned (sv x y z k c f v a' n)) w) : bodyPost Tryz.prog Tryz.f8 R .ret a w :=
  bodyPost_ret (results_cell_row (P := Tryz.prog) rfl a.tmps w g 37 _ _ _ hp hg Tryz.underlying37 rfl (by kernel_rfl)) hd hR
abbrev zBox : Obj := .cells (s9 (.slice none 0 0) (.slice none 0 0) (.slice none 0 0) 0 0 0 0 0 0) 37 (0, 0)

set_option maxRecDepth 100000 in
set_option maxHeartbeats 1000000 in
theorem cJoinNone (ad : Option Addr) (cp : Nat) (w : World) :
    Calls Tryz.prog 23 #[.slice ad 0 cp] w fun e w' => ∃ v', e = .returned v' ∧ FrS w.heap.size w' v' MM.emp ∧ Below w.heap.size w w' := by
  have hz := heap_alloc_new w zBox
  have hfr := below_fresh w zBox
  have HZ := Lib.hid hz
  have HFR := Lib.hid hfr
  clear hz hfr
  go_enter Tryz.func23, Tryz.ntmps23
  go_wp2
  exact jall_ret rfl HZ.out rfl ⟨_, rfl, fun w'' hf => ⟨_, _, _, rfl, RdG.nil hlI _, RdG.nil hlI _, RdG.nil hlW _⟩, HFR.out⟩

set_option maxRecDepth 100000 in
set_option maxHeartbeats 4000000 in
theorem cJoinAll : ∀ (n : Nat) (v : Value) (fs : List MM.Prp) (w : World), fs.length ≤ n → RdF w v fs → (∀ x ∈ fs, JM.errP x.1 x.2.1 x.2.2 = 0) → fs.length ≤ 1000000 →
    Calls Tryz.prog 23 #[v] w fun e w' => ∃ v', e = .returned v' ∧ FrS w.heap.size w' v' (MM.jall n fs) ∧ Below w.heap.size w w' := by
  intro n
  induction n with
  | zero =>
    intro v fs w hn h hv hl
    obtain rfl : fs = [] := List.eq_nil_of_length_eq_zero (by omega)
    obtain ⟨ad, cp, rfl, _, _⟩ := h.shape
    exact cJoinNone ad cp w
  | succ n ih =>
    intro v fs w hn h hv hl
    match fs, hn, h, hv, hl with
    | [], hn, h, hv, hl =>
      obtain ⟨ad, cp, rfl, _, _⟩ := h.shape
      exact cJoinNone ad cp w
    | [(ad, nu, cs)], hn, h, hv, hl =>
      obtain ⟨aa, cp, rfl, _, _⟩ := h.shape
      have hz := heap_alloc_new w zBox
      have hfr := below_fresh w zBox
      have HZ := Lib.hid hz
      have HFR := Lib.hid hfr
      generalize hw1 : w.alloc zBox = w1 at HZ HFR
      have HW1 := Lib.hid (show w.alloc (.cells (s9 (.slice none 0 0) (.slice none 0 0) (.slice none 0 0) 0 0 0 0 0 0) 37) = w1 from hw1)
      obtain ⟨b, o, sa, slen, sc, hi, hb, c0, c1, c2, hrc⟩ := (h.below HFR.out).at_ 0 ad nu cs rfl
      have HO := Lib.hid (cOf ad nu _ cs w1 hrc (hv (ad, nu, cs) (by simp)))
      have hi0 : ∀ w0, (Instr.indexAt 28 (.slice aa [((ad, nu, cs) : MM.Prp)].length cp) (.int .i64 0)).run Tryz.prog w0 = .ok (.pointer (some ⟨b, o, none⟩)) w0 := hi
      have HJ := Lib.hid (show MM.jall (n + 1) [((ad, nu, cs) : MM.Prp)] = MM.ofP ad nu cs from rfl)
      rw [HJ.out]
      generalize MM.ofP ad nu cs = S at HO HJ ⊢
      clear h hv hl hn hz hfr hw1 ih hb hrc hi HJ
      generalize hln : [((ad, nu, cs) : MM.Prp)].length = ln at hi0 ⊢
      obtain rfl : 1 = ln := hln
      go_enter Tryz.func23, Tryz.ntmps23
      go_upto_region 1 with fail
      rw [HW1.out]
      go_wp2_with fail
      refine HO.out.mono ?_
      rintro e w2 ⟨v2, rfl, hr2, hb2⟩
      obtain ⟨ax, lx, cx, ay, ly, cy, az, lz, cz, hv2⟩ := hr2.rd.shape
      subst hv2
      have HZ2 := Lib.hid (below_block HZ.out hb2)
      have HB2 := Lib.hid (bnext HFR.out hb2)
      have HR2 := Lib.hid hr2
      have HG1 := Lib.hid (show w.heap.size < w1.heap.size from (Array.getElem?_eq_some_iff.1 HZ.out).1)
      obtain ⟨⟨z0, z1, z2, z3, z4, z5, z6, z7, z8⟩, f0, f1, f2, f3, f4, f5, f6, f7, f8⟩ := row9_at HZ2.out
      clear hr2 hb2 HO c0 c1 c2 hi0
      go_wp2
      have hput := row9_put HZ2.out (.slice ax lx cx) (.slice ay ly cy) (.slice az lz cz) (.int .i64 S.k) (.int .i64 S.c) (.int .i64 S.f) (.int .i64 S.v) (.int .i64 S.a) (.int .i64 S.n) w.heap.size (Nat.le_refl _)
      have hon := onlyc9 (w := w2) (g := w.heap.size) (.slice ax lx cx) (.slice ay ly cy) (.slice az lz cz) (.int .i64 S.k) (.int .i64 S.c) (.int .i64 S.f) (.int .i64 S.v) (.int .i64 S.a) (.int .i64 S.n)
      exact jall_ret rfl hput.1 rfl ⟨_, rfl, (HR2.out.fr (Fr.only hon HG1.out)).mono (Nat.le_of_lt HG1.out), HB2.out.trans hput.2⟩
    | f1 :: f2 :: r, hn, h, hv, hl =>
      obtain ⟨fs, hfs⟩ : ∃ fs, fs = f1 :: f2 :: r := ⟨_, rfl⟩
      have hjl : MM.jall (n + 1) (f1 :: f2 :: r) = MM.join (MM.jall n (fs.take (fs.length / 2))) (MM.jall n (fs.drop (fs.length / 2))) := by rw [hfs]; rfl
      rw [hjl]
      rw [← hfs] at hn h hv hl
      have h2 : 2 ≤ fs.length := by rw [hfs]; simp
      clear hjl hfs
      obtain ⟨aa, cp, rfl, _, _⟩ := h.shape
      obtain ⟨H2, hH2⟩ : ∃ H2, H2 = fs.length / 2 := ⟨_, rfl⟩
      rw [← hH2]
      have hle : H2 ≤ fs.length := by omega
      have hz := heap_alloc_new w zBox
      have hfr := below_fresh w zBox
      have HZ := Lib.hid hz
      have HFR := Lib.hid hfr
      generalize hw1 : w.alloc zBox = w1 at HZ HFR
      have HW1 := Lib.hid (show w.alloc (.cells (s9 (.slice none 0 0) (.slice none 0 0) (.slice none 0 0) 0 0 0 0 0 0) 37) = w1 from hw1)
      have HG1 := Lib.hid (show w.heap.size < w1.heap.size from (Array.getElem?_eq_some_iff.1 HZ.out).1)
      obtain ⟨va, hca, hra⟩ := h.cut0 H2 hle
      obtain ⟨vb, hcb, hrb⟩ := h.cutL H2 hle
      have HCA := Lib.hid hca
      have HCB := Lib.hid hcb
      have hv1 : ∀ x ∈ fs.take H2, JM.errP x.1 x.2.1 x.2.2 = 0 := fun x hx => hv x (List.mem_of_mem_take hx)
      have hv2 : ∀ x ∈ fs.drop H2, JM.errP x.1 x.2.1 x.2.2 = 0 := fun x hx => hv x (List.mem_of_mem_drop hx)
      have hn1 : (fs.take H2).length ≤ n := by rw [List.length_take]; omega
      have hn2 : (fs.drop H2).length ≤ n := by rw [List.length_drop]; omega
      have HA := Lib.hid (fun w' (hb : Below w.heap.size w w') => ih va (fs.take H2) w' hn1 (hra.below hb) hv1 (by rw [List.length_take]; omega))
      have HB := Lib.hid (fun w' (hb : Below w.heap.size w w') => ih vb (fs.drop H2) w' hn2 (hrb.below hb) hv2 (by rw [List.length_drop]; omega))
      have hka := okS_len (okS_jall hn1 hv1)
      have hkb := okS_len (okS_jall hn2 hv2)
      generalize MM.jall n (fs.take H2) = SA at HA hka ⊢
      generalize MM.jall n (fs.drop H2) = SB at HB hkb ⊢
      have HJ := Lib.hid (fun (u1 u2 : Value) w' (h1 : RdS w' u1 SA) (h2 : RdS w' u2 SB) => cJoin u1 u2 SA SB w' h1 h2 hka hkb)
      generalize MM.join SA SB = SJ at HJ ⊢
      have HH2 := Lib.hid hH2
      have hq0 : ¬ ((fs.length : Int) = 0) := by omega
      have hq1 : ¬ ((fs.length : Int) = 1) := by omega
      have hqb0 : ((fs.length : Int) == 0) = false := by simpa using hq0
      have hqb1 : ((fs.length : Int) == 1) = false := by simpa using hq1
      have hdiv : (fs.length : Int) / 2 = (H2 : Int) := by omega
      have hdiv2 : (fs.length : Int).tdiv 2 = (H2 : Int) := by rw [Int.tdiv_eq_ediv_of_nonneg (by omega)]; exact hdiv
      have hH2b : (H2 : Int) ≤ 1000000 := by omega
      clear h hv hl hn hz hfr hw1 ih hra hrb hca hcb hv1 hv2 hn1 hn2 hka hkb hH2 h2 hle
      go_enter Tryz.func23, Tryz.ntmps23
      go_wp2
      rw [HW1.out]
      have hdr : Below w.heap.size w w1.drew := HFR.out.drew
      refine wp_region_held_drew (S := fun w' => Below w.heap.size w w') (by kernel_rfl) hdr (fun ha => ?_)
      replace ha : Below w.heap.size w w1.drew := hdr
      have HZ1 := Lib.hid (show w1.drew.heap[w.heap.size]? = some zBox from HZ.out)
      have HG2 := Lib.hid (show w.heap.size < w1.drew.heap.size from HG1.out)
      clear hdr HZ HFR HW1 HG1
      generalize w1.drew = wa at ha HZ1 HG2 ⊢
      refine takeH (i := 0) (v := ?_) rfl (by kernel_rfl) (by kernel_rfl) (by kernel_rfl) (fun _ _ _ h => h) (Or.inl ⟨by rfl, ?_⟩) (by assumption) ?_
      rotate_left
      · (intro w hSw; (try dsimp only at hSw); go_simp; first | done | with_reducible rfl)
      (try simp only [Act.put, List.setIfInBounds_toArray, List.set_cons_zero, List.set_cons_succ])
      refine takeH (i := 1) (v := ?_) rfl (by kernel_rfl) (by kernel_rfl) (by kernel_rfl) (fun _ _ _ h => h) (Or.inl ⟨by rfl, ?_⟩) (by assumption) ?_
      rotate_left
      · (intro w hSw; (try dsimp only at hSw); go_simp; first | done | with_reducible rfl)
      (try simp only [Act.put, List.setIfInBounds_toArray, List.set_cons_zero, List.set_cons_succ])
      refine takeH (i := 4) (v := ?_) rfl (by kernel_rfl) (by kernel_rfl) (by kernel_rfl) (fun _ _ _ h => h) (Or.inl ⟨by rfl, ?_⟩) (by assumption) ?_
      rotate_left
      · (intro w hSw; (try dsimp only at hSw); go_simp; first | done | with_reducible rfl)
      (try simp only [Act.put, List.setIfInBounds_toArray, List.set_cons_zero, List.set_cons_succ])
      refine takeH (i := 5) (v := ?_) rfl (by kernel_rfl) (by kernel_rfl) (by kernel_rfl) (fun _ _ _ h => h) (Or.inl ⟨by rfl, ?_⟩) (by assumption) ?_
      rotate_left
      · (intro w hSw; (try dsimp only at hSw); go_simp; first | done | with_reducible rfl)
      (try simp only [Act.put, List.setIfInBounds_toArray, List.set_cons_zero, List.set_cons_succ])
      refine takeH (i := 2) (v := ?_) rfl (by kernel_rfl) (by kernel_rfl) (by kernel_rfl) (fun _ _ _ h => h) (Or.inl ⟨by rfl, ?_⟩) (by assumption) ?_
      rotate_left
      · (intro w hSw; (try dsimp only at hSw); have hc0 := HCA.out w; go_simp; first | done | with_reducible rfl)
      (try simp only [Act.put, List.setIfInBounds_toArray, List.set_cons_zero, List.set_cons_succ])
      refine takeH (i := 6) (v := ?_) rfl (by kernel_rfl) (by kernel_rfl) (by kernel_rfl) (fun _ _ _ h => h) (Or.inl ⟨by rfl, ?_⟩) (by assumption) ?_
      rotate_left
      · (intro w hSw; (try dsimp only at hSw); have hc0 := HCB.out w; go_simp; first | done | with_reducible rfl)
      (try simp only [Act.put, List.setIfInBounds_toArray, List.set_cons_zero, List.set_cons_succ])
      refine wpAnyH_ready (rs := [3]) (by kernel_rfl) (by simp) ?_
      refine stepH rfl (fun K hK => ?_) AllReadyH.nil
      go_simp
      refine (HA.out wa ha).mono ?_
      rintro e wb ⟨v1, rfl, hr1, hq⟩
      have hb := bnext ha hq
      replace HZ1 := Lib.hid (below_block HZ1.out hq)
      replace HG2 := Lib.hid (Nat.lt_of_lt_of_le HG2.out hq.size)
      clear hq
      go_wp2_with fail
      refine hK.out _ _ (hb) (fun _ => ?_)
      clear hK K
      (try simp only [Act.put, List.setIfInBounds_toArray, List.set_cons_zero, List.set_cons_succ])
      refine wpAnyH_ready (rs := [7]) (by kernel_rfl) (by simp) ?_
      refine stepH rfl (fun K hK => ?_) AllReadyH.nil
      go_simp
      refine (HB.out wb hb).mono ?_
      rintro e wc ⟨v2, rfl, hr2, hq⟩
      have hc := bnext hb hq
      replace HZ1 := Lib.hid (below_block HZ1.out hq)
      replace HG2 := Lib.hid (Nat.lt_of_lt_of_le HG2.out hq.size)
      have hr1' := hr1.rd.below hq
      have hr2' := hr2.rd
      clear hq hr1 hr2
      go_wp2_with fail
      refine hK.out _ _ (hc) (fun _ => ?_)
      clear hK K
      (try simp only [Act.put, List.setIfInBounds_toArray, List.set_cons_zero, List.set_cons_succ])
      refine wpAnyH_ready (rs := [8]) (by kernel_rfl) (by simp) ?_
      refine stepH rfl (fun K hK => ?_) AllReadyH.nil
      go_simp
      refine (HJ.out v1 v2 wc hr1' hr2').mono ?_
      rintro e wd ⟨v3, rfl, hr3, hq⟩
      have hd := bnext hc hq
      replace HZ1 := Lib.hid (below_block HZ1.out hq)
      have HG3 := HG2
      clear hq hr1' hr2'
      obtain ⟨ax, lx, cx, ay, ly, cy, az, lz, cz, hv3⟩ := hr3.rd.shape
      subst hv3
      go_wp2_with fail
      refine hK.out _ _ (hd) (fun _ => ?_)
      clear hK K
      (try simp only [Act.put, List.setIfInBounds_toArray, List.set_cons_zero, List.set_cons_succ])
      obtain ⟨⟨z0, z1, z2, z3, z4, z5, z6, z7, z8⟩, f0, f1, f2, f3, f4, f5, f6, f7, f8⟩ := row9_at HZ1.out
      have hput := row9_put HZ1.out (.slice ax lx cx) (.slice ay ly cy) (.slice az lz cz) (.int .i64 SJ.k) (.int .i64 SJ.c) (.int .i64 SJ.f) (.int .i64 SJ.v) (.int .i64 SJ.a) (.int .i64 SJ.n) w.heap.size (Nat.le_refl _)
      have hon := onlyc9 (w := wd) (g := w.heap.size) (.slice ax lx cx) (.slice ay ly cy) (.slice az lz cz) (.int .i64 SJ.k) (.int .i64 SJ.c) (.int .i64 SJ.f) (.int .i64 SJ.v) (.int .i64 SJ.a) (.int .i64 SJ.n)
      have HPUT := Lib.hid hput.1
      have HEND := Lib.hid (hd.trans hput.2)
      have HFIN := Lib.hid ((hr3.fr (Fr.only hon HG3.out)).mono (Nat.le_of_lt HG3.out))
      clear hput hon hr3
      refine wpAnyH_ready (rs := [9]) (by kernel_rfl) (by simp) ?_
      refine stepH rfl (fun K hK => ?_) AllReadyH.nil
      go_simp
      skip
      refine hK.out _ _ (HEND.out) (fun _ => ?_)
      clear hK K
      (try simp only [Act.put, List.setIfInBounds_toArray, List.set_cons_zero, List.set_cons_succ])
      refine wpAnyH_done (by kernel_rfl) ?_ _
      clear z0 z1 z2 z3 z4 z5 z6 z7 z8 f0 f1 f2 f3 f4 f5 f6 f7 f8
      go_wp2
      exact jall_ret rfl HPUT.out rfl ⟨_, rfl, HFIN.out, HEND.out⟩

set_option maxRecDepth 100000 in
set_option maxHeartbeats 4000000 in
theorem cSummarize (u v : Value) (k c f : Int) (ms : List Mem) (fs : List MM.Prp) (w : World) (hu : RdM w u ms) (h : RdF w v fs) (hg : MM.errG k c f ms = 0) (hml : ms.length ≤ 1000000) (hv : ∀ x ∈ fs, JM.errP x.1 x.2.1 x.2.2 = 0) (hl : fs.length ≤ 1000000) :
    Calls Tryz.prog 8 #[vw u k c f, v] w fun e w' => ∃ v', e = .returned v' ∧ FrS w.heap.size w' v' (MM.summ ms k c f fs) ∧ Below w.heap.size w w' := by
  obtain ⟨g1, g2, _⟩ := MM.errG_zero hg
  have hka := okS_len (MM.okS_ini g1 g2)
  have hkb := okS_len (okS_jall (Nat.le_refl fs.length) hv)
  obtain ⟨w1, hw1, hB1, hsz1, hZ1⟩ : ∃ w1, (w.alloc (.cells #[u, .int .i64 k, .int .i64 c, .int .i64 f] 26)).alloc zBox = w1 ∧ Below w.heap.size w w1 ∧ w1.heap.size = w.heap.size + 2 ∧ w1.heap[w.heap.size + 1]? = some zBox :=
    ⟨_, rfl, bnext (below_fresh _ _) (below_fresh _ _), by simp, by rw [← World.size_alloc w (.cells #[u, .int .i64 k, .int .i64 c, .int .i64 f] 26)]; exact heap_alloc_new _ _⟩
  have hG1 : w1.heap[w.heap.size]? = some (.cells #[u, .int .i64 k, .int .i64 c, .int .i64 f] 26 (0, 0)) := by rw [← hw1]; exact below_block (heap_alloc_new w _) (below_fresh _ _)
  obtain ⟨⟨q0, q1, q2, q3⟩, _⟩ := row4_at hG1
  obtain ⟨ua, uc, rfl, _, _⟩ := hu.shape
  have HI := Lib.hid (cInitial _ k c f ms w1 (hu.below hB1) hml)
  have HA := Lib.hid (fun w' (hb : Below w.heap.size w w') => cJoinAll fs.length v fs w' (Nat.le_refl _) (h.below hb) hv hl)
  have HS := Lib.hid (show MM.join (MM.ini ms k c f) (MM.jall fs.length fs) = MM.summ ms k c f fs from rfl)
  generalize MM.summ ms k c f fs = SJ at HS ⊢
  generalize MM.jall fs.length fs = SB at HA hkb HS
  generalize MM.ini ms k c f = SA at HI hka HS
  have HJ := Lib.hid (fun (u1 u2 : Value) w' (h1 : RdS w' u1 SA) (h2 : RdS w' u2 SB) => cJoin u1 u2 SA SB w' h1 h2 hka hkb)
  rw [HS.out] at HJ
  have HB1 := Lib.hid hB1
  have HZ1 := Lib.hid hZ1
  have HSZ := Lib.hid hsz1
  have HW1 := Lib.hid hw1
  clear hu h hg hv hl hml hka hkb hB1 hsz1 hZ1 hG1 hw1 g1 g2 HS
  go_enter Tryz.func8, Tryz.ntmps8
  go_wp2_with fail
  rw [HW1.out]
  go_wp2_with fail
  refine HI.out.mono ?_
  rintro e wb ⟨v1, rfl, hr1, hq1⟩
  have HB2 := Lib.hid (bnext HB1.out hq1)
  have HZ2 := Lib.hid (below_block HZ1.out hq1)
  have HR1 := Lib.hid hr1.rd
  have HG2 := Lib.hid (show w.heap.size + 1 < wb.heap.size by have := hq1.size; have := HSZ.out; omega)
  clear hr1 hq1 HI q0 q1 q2 q3
  go_wp2_with fail
  refine (HA.out wb HB2.out).mono ?_
  rintro e wc ⟨v2, rfl, hr2, hq2⟩
  have HB3 := Lib.hid (bnext HB2.out hq2)
  have HZ3 := Lib.hid (below_block HZ2.out hq2)
  have HR1' := Lib.hid (HR1.out.below hq2)
  have HR2 := Lib.hid hr2.rd
  have HG3 := Lib.hid (Nat.lt_of_lt_of_le HG2.out hq2.size)
  clear hr2 hq2 HA
  go_wp2_with fail
  refine (HJ.out v1 v2 wc HR1'.out HR2.out).mono ?_
  rintro e wd ⟨v3, rfl, hr3, hq3⟩
  have HB4 := Lib.hid (bnext HB3.out hq3)
  have HZ4 := Lib.hid (below_block HZ3.out hq3)
  obtain ⟨ax, lx, cx, ay, ly, cy, az, lz, cz, hv3⟩ := hr3.rd.shape
  subst hv3
  have HR3 := Lib.hid hr3
  clear hr3 hq3 HJ
  obtain ⟨⟨z0, z1, z2, z3, z4, z5, z6, z7, z8⟩, f0, f1, f2, f3, f4, f5, f6, f7, f8⟩ := row9_at HZ4.out
  go_wp2
  have hput := row9_put HZ4.out (.slice ax lx cx) (.slice ay ly cy) (.slice az lz cz) (.int .i64 SJ.k) (.int .i64 SJ.c) (.int .i64 SJ.f) (.int .i64 SJ.v) (.int .i64 SJ.a) (.int .i64 SJ.n) w.heap.size (Nat.le_succ _)
  have hon := onlyc9 (w := wd) (g := w.heap.size + 1) (.slice ax lx cx) (.slice ay ly cy) (.slice az lz cz) (.int .i64 SJ.k) (.int .i64 SJ.c) (.int .i64 SJ.f) (.int .i64 SJ.v) (.int .i64 SJ.a) (.int .i64 SJ.n)
  exact summ_ret rfl hput.1 rfl ⟨_, rfl, (HR3.out.fr (Fr.only hon HG3.out)).mono (by have := HG3.out; omega), HB4.out.trans hput.2⟩

end Go.Proofs.YtkaafbdhgekeeaaGreat
