/-
  The calls of the reference's Of and of its Join: the summary of a proposal; the join of two summaries. Conditions: what they read ascends and is short.
  The call of the reference's Join: the join of two valid summaries. Conditions: both read and are valid.
  The calls of the reference's Summarize: the joins of the summaries, one after the other. Conditions: the genesis and the configuration are valid.
  The calls of the reference's weight and of its View. Conditions: the summary reads, its lists are short.
-/
import Derived.Test.YthfpafnljnnndaaGreatSMAwake
import Derived.Test.YthfpafnljnnndaaGreatSMRIni
import Derived.Test.YthfpafnljnnndaaGreatSM1
import Derived.Test.YthfpafnljnnndaaGreatSMKit
namespace Go.Proofs.YthfpafnljnnndaaGreat
open Go.RowKit Go.Joins
open JM (Chg)
open MM (Mem Ent Sm Tri)

theorem rof_ret {R : Ending → World → Prop} {a : Act} {w : World} {g : Nat} {x y z : Value} {k c f v a' n : Int} (hp : a.tmps.getD 2 undef = .pointer (some ⟨g, 0, none⟩)) (hg : w.heap[g]? = some (.cells (s9 x y z k c f v a' n) 81 (0, 0)))
    (hd : a.defers = []) (hR : R (.returned (sv x y z k c f v a' n)) w) : bodyPost Tryz.prog Tryz.f79 R .ret a w :=
  bodyPost_ret (results_cell_row (P := Tryz.prog) rfl a.tmps w g 81 _ _ _ hp hg Tryz.underlying81 rfl (by kernel_rfl)) hd hR
theorem rjoin_ret {R : Ending → World → Prop} {a : Act} {w : World} {g : Nat} {x y z : Value} {k c f v a' n : Int} (hp : a.tmps.getD 4 undef = .pointer (some ⟨g, 0, none⟩)) (hg : w.heap[g]? = some (.cells (s9 x y z k c f v a' n) 81 (0, 0)))
    (hd : a.defers = []) (hR : R (.returned (sv x y z k c f v a' n)) w) : bodyPost Tryz.prog Tryz.f78 R .ret a w :=
  bodyPost_ret (results_cell_row (P := Tryz.prog) rfl a.tmps w g 81 _ _ _ hp hg Tryz.underlying81 rfl (by kernel_rfl)) hd hR

/-! A list that reads in w and goes on reading while the blocks from B on stay. -/
def FrI (B : Nat) (w : World) (v : Value) (l : List Int) : Prop := ∀ w', Fr B w w' → RdI w' v l
def FrW (B : Nat) (w : World) (v : Value) (l : List Ent) : Prop := ∀ w', Fr B w w' → RdW w' v l
theorem FrI.rd {B : Nat} {w : World} {v : Value} {l : List Int} (h : FrI B w v l) : RdI w v l := h w (Fr.refl _ _)
theorem FrW.rd {B : Nat} {w : World} {v : Value} {l : List Ent} (h : FrW B w v l) : RdW w v l := h w (Fr.refl _ _)
theorem FrI.fr {B : Nat} {w w' : World} {v : Value} {l : List Int} (h : FrI B w v l) (hf : Fr B w w') : FrI B w' v l := fun w'' h2 => h w'' (hf.trans h2)
theorem FrW.fr {B : Nat} {w w' : World} {v : Value} {l : List Ent} (h : FrW B w v l) (hf : Fr B w w') : FrW B w' v l := fun w'' h2 => h w'' (hf.trans h2)
theorem ownI_fr {B : Nat} {w : World} {v : Value} {l : List Int} (h : OwnI B w v l) : FrI B w v l := fun _ hf => (h.fr hf).rd
theorem ownW_fr {B : Nat} {w : World} {v : Value} {l : List Ent} (h : OwnW B w v l) : FrW B w v l := fun _ hf => (h.fr hf).rd
theorem FrI.mono {B B' : Nat} {w : World} {v : Value} {l : List Int} (h : FrI B' w v l) (hb : B ≤ B') : FrI B w v l := fun w'' h2 => h w'' (h2.mono hb)
theorem FrW.mono {B B' : Nat} {w : World} {v : Value} {l : List Ent} (h : FrW B' w v l) (hb : B ≤ B') : FrW B w v l := fun w'' h2 => h w'' (h2.mono hb)
theorem FrI.nil (B : Nat) (w : World) : FrI B w (.slice none 0 0) [] := fun _ _ => RdG.nil hlI _
theorem FrW.nil (B : Nat) (w : World) : FrW B w (.slice none 0 0) [] := fun _ _ => RdG.nil hlW _
theorem FrI.shape {B : Nat} {w : World} {v : Value} {l : List Int} (h : FrI B w v l) : ∃ (a : Option Addr) (n c : Nat), v = .slice a n c := by obtain ⟨a, c, h, _⟩ := h.rd.shape; exact ⟨a, _, c, h⟩
theorem FrW.shape {B : Nat} {w : World} {v : Value} {l : List Ent} (h : FrW B w v l) : ∃ (a : Option Addr) (n c : Nat), v = .slice a n c := by obtain ⟨a, c, h, _⟩ := h.rd.shape; exact ⟨a, _, c, h⟩

/-! Insert and Weigh in ascending lists. -/
theorem oInsert (v : Value) (l : List Int) (n : Int) (w : World) (h : RdI w v l) (hs : MM.Srt MM.kI l) (hl : l.length ≤ 1000000) :
    Calls Tryz.prog 51 #[v, .int .i64 n] w fun e w' => ∃ v', e = .returned v' ∧ FrI w.heap.size w' v' (MM.insI n l) ∧ Below w.heap.size w w' :=
  (rInsert v l n w h hl).mono fun _ _ ⟨v', h1, h2, h3⟩ => ⟨v', h1, by rw [← insF_srt hs]; exact ownI_fr h2, h3⟩
theorem oWeigh (v : Value) (l : List Ent) (s t x a n : Int) (w : World) (h : RdW w v l) (hs : MM.Srt MM.kW l) (hl : l.length ≤ 1000000) :
    Calls Tryz.prog 114 #[v, wv s t x a n] w fun e w' => ∃ v', e = .returned v' ∧ FrW w.heap.size w' v' (MM.insW (s, t, x, a, n) l) ∧ Below w.heap.size w w' :=
  (rWeigh v l s t x a n w h hl).mono fun _ _ ⟨v', h1, h2, h3⟩ => ⟨v', h1, by rw [← whF_srt hs]; exact ownW_fr h2, h3⟩

set_option maxRecDepth 100000 in
set_option maxHeartbeats 8000000 in
theorem rOf (ad nu : Int) (u : Value) (cs : List Chg) (w : World) (h : RdC w u cs) (hv : JM.errP ad nu cs = 0) :
    Calls Tryz.prog 79 #[pv ad nu u] w fun e w' => ∃ v, e = .returned v ∧ FrS w.heap.size w' v (MM.ofP ad nu cs) ∧ Below w.heap.size w w' := by
  obtain ⟨au, cu, rfl, hcu, hlu⟩ := h.shape
  obtain ⟨w3, hw3, hB, hsz, hP, hZ, hS⟩ := of_boxes w ad nu (.slice au cs.length cu)
  have H := Lib.hid h
  have HV := Lib.hid (MM.errP_zero hv).2.2
  have HOK := Lib.hid (fun j => show MM.OkS (MM.ofP ad nu (cs.take j)) by
    obtain ⟨h1, h2, h3, h4⟩ := MM.errP_zero hv
    have h5 := (MM.errS_zero h4).1
    have hg : ∀ (cs : List Chg) (s : Sm), (∀ x ∈ cs, JM.errCh x = 0) → MM.OkS s → MM.OkS (cs.foldl (MM.stp ad nu) s) := by
      intro cs
      induction cs with
      | nil => intro s _ h; exact h
      | cons x cs ih => intro s hx h; exact ih _ (fun y hy => hx y (by simp [hy])) (MM.okS_stp h (by omega) (by omega) (hx x (by simp)))
    exact hg (cs.take j) MM.emp (fun x hx => (h5 x (List.mem_of_mem_take hx)).1) MM.okS_emp)
  have HW := Lib.hid hw3
  have HB := Lib.hid hB
  have HSZ := Lib.hid hsz
  have HP := Lib.hid hP
  have HZ := Lib.hid hZ
  have HS := Lib.hid hS
  clear h hv hw3 hB hsz hP hZ hS hcu hlu
  go_enter Tryz.func79, Tryz.ntmps79
  go_wp2
  rw [HW.out]
  go_loopw [4] (fun i wr => ∃ (j : Nat) (vJ vR vW : Value) (S : Sm), j ≤ cs.length ∧ i = .int .i64 j ∧ Hid (S = MM.ofP ad nu (cs.take j)) ∧ Hid (Below w.heap.size w wr) ∧ Hid (w3.heap.size ≤ wr.heap.size) ∧
    Hid (wr.heap[w.heap.size]? = some (.cells (pCells ad nu (.slice au cs.length cu)) 70 (0, 0))) ∧
    Hid (wr.heap[w.heap.size + 1]? = some (.cells (s9 (.slice none 0 0) (.slice none 0 0) (.slice none 0 0) 0 0 0 0 0 0) 81 (0, 0))) ∧
    Hid (wr.heap[w.heap.size + 1 + 1]? = some (.cells (s9 vJ vR vW S.k S.c S.f S.v S.a S.n) 81 (0, 0))) ∧
    Hid (FrI w3.heap.size wr vJ S.J) ∧ Hid (FrI w3.heap.size wr vR S.R) ∧ Hid (FrW w3.heap.size wr vW S.W)) (fun i _ => cs.length - (intOf i).toNat)
  case atStart => exact ⟨0, _, _, _, MM.emp, Nat.zero_le _, rfl, Lib.hid (by rw [List.take_zero]; rfl), HB, Lib.hid (Nat.le_refl _), HP, HZ, HS, Lib.hid (FrI.nil _ _), Lib.hid (FrI.nil _ _), Lib.hid (FrW.nil _ _)⟩
  case round =>
    obtain ⟨j, vJ, vR, vW, S, hj, rfl, hraw, hb, hs3, hp, hz, hsb, hoj, hor, how⟩ := hrel
    have HOS := Lib.hid (show MM.OkS S by rw [hraw.out]; exact HOK.out j)
    have HLN := Lib.hid (okS_len HOS.out)
    obtain ⟨Jl, Rl, Wl, rk, rc, rf, rv, ra, rn⟩ := S
    dsimp only at hsb hoj hor how HLN
    clear HB HW HP HZ HS
    obtain ⟨ai, li, ci, hvi⟩ := hoj.out.shape
    obtain ⟨ar, lr, cr, hvr⟩ := hor.out.shape
    obtain ⟨ae, le, ce, hve⟩ := how.out.shape
    subst hvi hvr hve
    obtain ⟨⟨p0, p1, p2⟩, _⟩ := row3_at hp.out
    by_cases hlt : j < cs.length
    · obtain ⟨⟨k, s, t, v, x, y, z⟩, hx⟩ : ∃ m : Chg, cs[j]? = some m := ⟨_, List.getElem?_eq_getElem hlt⟩
      obtain ⟨b, o, hi, c0, c1, c2, c3, c4, c5, c6⟩ := atC (H.out.below hb.out) j _ _ _ _ _ _ _ hx
      have hq : (j : Int) < (cs.length : Int) := by omega
      have hjb : (j : Int) ≤ 1000000 := by have := HV.out.1; omega
      have HN := Lib.hid (show MM.stp ad nu ⟨Jl, Rl, Wl, rk, rc, rf, rv, ra, rn⟩ (k, s, t, v, x, y, z) = MM.ofP ad nu (cs.take (j + 1)) by rw [MM.ofP_take ad nu cs j _ hx, hraw.out])
      have hc := MM.chg_zero ((MM.errS_zero HV.out.2).1 _ (List.mem_of_getElem? hx)).1
      have hfr := below_fresh wr (.cells (cCells k s t v x y z) 67)
      have hxb := heap_alloc_new wr (.cells (cCells k s t v x y z) 67)
      obtain ⟨X, hX⟩ : ∃ X, X = wr.heap.size := ⟨_, rfl⟩
      obtain ⟨wn, hwn⟩ : ∃ wn, wr.alloc (.cells (cCells k s t v x y z) 67) = wn := ⟨_, rfl⟩
      have hXn : X < wn.heap.size := by rw [hX, ← hwn]; simp
      rw [hwn] at hfr hxb
      rw [← hX] at hxb
      have HXB := Lib.hid hxb
      have HXW := Lib.hid (show w.heap.size + 1 + 1 < X by have := hs3.out; have := HSZ.out; omega)
      have HP1 := Lib.hid (below_block hp.out hfr)
      have HZ1 := Lib.hid (below_block hz.out hfr)
      have HS1 := Lib.hid (below_block hsb.out hfr)
      have HJ1 := Lib.hid (hoj.out.fr (Fr.of hfr))
      have HR1 := Lib.hid (hor.out.fr (Fr.of hfr))
      have HW1 := Lib.hid (how.out.fr (Fr.of hfr))
      have HB1 := Lib.hid (bnext hb.out hfr)
      have HSZ1 := Lib.hid (Nat.le_trans hs3.out hfr.size)
      have HWN := Lib.hid hwn
      have HXE := Lib.hid hX
      clear hfr hxb hwn hb hs3 hp hz hsb hoj hor how hraw hX hx hXn
      go_upto_region 6 with fail
      rw [HWN.out, ← HXE.out]
      clear HWN HXE c0 c1 c2 c3 c4 c5 c6 hi p0 p1 p2
      obtain ⟨⟨p0, p1, p2⟩, _⟩ := row3_at HP1.out
      obtain ⟨x0, x1, x2, x3, x4, x5, x6⟩ := row7_at HXB.out
      obtain ⟨⟨z0, z1, z2, z3, z4, z5, z6, z7, z8⟩, f0, f1, f2, f3, f4, f5, f6, f7, f8⟩ := row9_at HS1.out
      rcases hc with ⟨rfl, h1, h2, rfl⟩ | ⟨rfl, h1⟩ | ⟨rfl, h1, h2, h3⟩ | ⟨rfl, h1, h2⟩
      · clear h1 h2
        have HN := Lib.hid (show (⟨MM.insI s Jl, Rl, MM.insW (s, t, 0, ad, nu) Wl, rk, rc, rf, rv, ra, rn⟩ : Sm) = MM.ofP ad nu (cs.take (j + 1)) by rw [← HN.out]; rfl)
        go_wp2_with fail
        refine (oInsert _ Jl s wn HJ1.out.rd HOS.out.j HLN.out.1).mono ?_
        rintro e wq ⟨vq, rfl, hrq, hbq⟩
        obtain ⟨aq, lq, cq, hvq⟩ := hrq.shape
        subst hvq
        have hs1 := below_block HS1.out hbq
        have hp1 := below_block HP1.out hbq
        have hz1 := below_block HZ1.out hbq
        have hx1 := below_block HXB.out hbq
        have hsz := Nat.le_trans HSZ1.out hbq.size
        have hb1 := bnext HB1.out hbq
        have hj1 := hrq.mono HSZ1.out
        have hr1 := HR1.out.fr (Fr.of hbq)
        have hw1 := HW1.out.fr (Fr.of hbq)
        clear p0 p1 p2 x0 x1 x2 x3 x4 x5 x6 z0 z1 z2 z3 z4 z5 z6 z7 z8 f0 f1 f2 f3 f4 f5 f6 f7 f8
        obtain ⟨⟨z0, z1, z2, z3, z4, z5, z6, z7, z8⟩, f0, f1, f2, f3, f4, f5, f6, f7, f8⟩ := row9_at hs1
        obtain ⟨⟨p0, p1, p2⟩, _⟩ := row3_at hp1
        obtain ⟨x0, x1, x2, x3, x4, x5, x6⟩ := row7_at hx1
        have hX1 : ¬ X = w.heap.size + 1 + 1 := by have := HXW.out; omega
        have hX2 : ¬ w.heap.size = w.heap.size + 1 + 1 := by omega
        have hs2 : (wq.setCell ⟨w.heap.size + 1 + 1, 0, none⟩ (.slice aq lq cq)).heap[w.heap.size + 1 + 1]? = some (.cells (s9 (.slice aq lq cq) (.slice ar lr cr) (.slice ae le ce) rk rc rf rv ra rn) 81 (0, 0)) := heap_setCell_same wq _ 0 _ _ _ hs1
        have ho2 : Only (w.heap.size + 1 + 1) wq (wq.setCell ⟨w.heap.size + 1 + 1, 0, none⟩ (.slice aq lq cq)) := Only.set 0 _
        have HS2 := Lib.hid hs2
        have HP2 := Lib.hid (ho2.at hp1 (by omega))
        have HZ2 := Lib.hid (ho2.at hz1 (by omega))
        have HX2 := Lib.hid (ho2.at hx1 (by have := HXW.out; omega))
        have HJ2 := Lib.hid (hj1.fr (Fr.only ho2 (by have := HSZ.out; omega)))
        have HR2 := Lib.hid (hr1.fr (Fr.only ho2 (by have := HSZ.out; omega)))
        have HW2 := Lib.hid (hw1.fr (Fr.only ho2 (by have := HSZ.out; omega)))
        have HB2 := Lib.hid (hb1.trans (ho2.below (by omega) hb1.size))
        have HSZ2 := Lib.hid (Nat.le_trans hsz ho2.size)
        clear hrq hbq hs1 hp1 hz1 hx1 hsz hb1 hj1 hr1 hw1 hs2 ho2 HS1 HP1 HZ1 HXB HJ1 HR1 HW1 HB1 HSZ1
        go_wp2_with fail
        generalize (wq.setCell ⟨w.heap.size + 1 + 1, 0, none⟩ (.slice aq lq cq)) = w3' at HS2 HP2 HZ2 HX2 HJ2 HR2 HW2 HB2 HSZ2 ⊢
        clear hX1 hX2 p0 p1 p2 x0 x1 x2 x3 x4 x5 x6 z0 z1 z2 z3 z4 z5 z6 z7 z8 f0 f1 f2 f3 f4 f5 f6 f7 f8
        obtain ⟨⟨p0, p1, p2⟩, _⟩ := row3_at HP2.out
        obtain ⟨x0, x1, x2, x3, x4, x5, x6⟩ := row7_at HX2.out
        obtain ⟨⟨z0, z1, z2, z3, z4, z5, z6, z7, z8⟩, f0, f1, f2, f3, f4, f5, f6, f7, f8⟩ := row9_at HS2.out
        go_wp2_with fail
        refine (oWeigh _ Wl s t 0 ad nu w3' HW2.out.rd HOS.out.w HLN.out.2.2).mono ?_
        rintro e wq ⟨vq, rfl, hrq, hbq⟩
        obtain ⟨au, lu, cu, hvq⟩ := hrq.shape
        subst hvq
        have hs1 := below_block HS2.out hbq
        have hp1 := below_block HP2.out hbq
        have hz1 := below_block HZ2.out hbq
        have hx1 := below_block HX2.out hbq
        have hsz := Nat.le_trans HSZ2.out hbq.size
        have hb1 := bnext HB2.out hbq
        have hj1 := HJ2.out.fr (Fr.of hbq)
        have hr1 := HR2.out.fr (Fr.of hbq)
        have hw1 := hrq.mono HSZ2.out
        clear p0 p1 p2 x0 x1 x2 x3 x4 x5 x6 z0 z1 z2 z3 z4 z5 z6 z7 z8 f0 f1 f2 f3 f4 f5 f6 f7 f8
        obtain ⟨⟨z0, z1, z2, z3, z4, z5, z6, z7, z8⟩, f0, f1, f2, f3, f4, f5, f6, f7, f8⟩ := row9_at hs1
        obtain ⟨⟨p0, p1, p2⟩, _⟩ := row3_at hp1
        obtain ⟨x0, x1, x2, x3, x4, x5, x6⟩ := row7_at hx1
        have hX1 : ¬ X = w.heap.size + 1 + 1 := by have := HXW.out; omega
        have hX2 : ¬ w.heap.size = w.heap.size + 1 + 1 := by omega
        have hs2 : (wq.setCell ⟨w.heap.size + 1 + 1, 2, none⟩ (.slice au lu cu)).heap[w.heap.size + 1 + 1]? = some (.cells (s9 (.slice aq lq cq) (.slice ar lr cr) (.slice au lu cu) rk rc rf rv ra rn) 81 (0, 0)) := heap_setCell_same wq _ 2 _ _ _ hs1
        have ho2 : Only (w.heap.size + 1 + 1) wq (wq.setCell ⟨w.heap.size + 1 + 1, 2, none⟩ (.slice au lu cu)) := Only.set 2 _
        clear HS2 HP2 HZ2 HX2 HJ2 HR2 HW2 HB2 HSZ2
        have HS2 := Lib.hid hs2
        have HP2 := Lib.hid (ho2.at hp1 (by omega))
        have HZ2 := Lib.hid (ho2.at hz1 (by omega))
        have HX2 := Lib.hid (ho2.at hx1 (by have := HXW.out; omega))
        have HJ2 := Lib.hid (hj1.fr (Fr.only ho2 (by have := HSZ.out; omega)))
        have HR2 := Lib.hid (hr1.fr (Fr.only ho2 (by have := HSZ.out; omega)))
        have HW2 := Lib.hid (hw1.fr (Fr.only ho2 (by have := HSZ.out; omega)))
        have HB2 := Lib.hid (hb1.trans (ho2.below (by omega) hb1.size))
        have HSZ2 := Lib.hid (Nat.le_trans hsz ho2.size)
        clear hrq hbq hs1 hp1 hz1 hx1 hsz hb1 hj1 hr1 hw1 hs2 ho2
        go_wp2_with fail
        generalize (wq.setCell ⟨w.heap.size + 1 + 1, 2, none⟩ (.slice au lu cu)) = w4' at HS2 HP2 HZ2 HX2 HJ2 HR2 HW2 HB2 HSZ2 ⊢
        clear hX1 hX2 p0 p1 p2 x0 x1 x2 x3 x4 x5 x6 z0 z1 z2 z3 z4 z5 z6 z7 z8 f0 f1 f2 f3 f4 f5 f6 f7 f8
        go_wp2
        go_roundw
        case rel => exact ⟨j + 1, _, _, _, _, by omega, by go_num, HN, HB2, HSZ2, HP2, HZ2, HS2, HJ2, HR2, HW2⟩
        case measure => simp [intOf]; omega
      · clear h1
        have HN := Lib.hid (show (⟨Jl, MM.insI s Rl, Wl, rk, rc, rf, rv, ra, rn⟩ : Sm) = MM.ofP ad nu (cs.take (j + 1)) by rw [← HN.out]; rfl)
        go_wp2_with fail
        refine (oInsert _ Rl s wn HR1.out.rd HOS.out.r HLN.out.2.1).mono ?_
        rintro e wq ⟨vq, rfl, hrq, hbq⟩
        obtain ⟨aq, lq, cq, hvq⟩ := hrq.shape
        subst hvq
        have hs1 := below_block HS1.out hbq
        have hp1 := below_block HP1.out hbq
        have hz1 := below_block HZ1.out hbq
        have hx1 := below_block HXB.out hbq
        have hsz := Nat.le_trans HSZ1.out hbq.size
        have hb1 := bnext HB1.out hbq
        have hj1 := HJ1.out.fr (Fr.of hbq)
        have hr1 := hrq.mono HSZ1.out
        have hw1 := HW1.out.fr (Fr.of hbq)
        clear p0 p1 p2 x0 x1 x2 x3 x4 x5 x6 z0 z1 z2 z3 z4 z5 z6 z7 z8 f0 f1 f2 f3 f4 f5 f6 f7 f8
        obtain ⟨⟨z0, z1, z2, z3, z4, z5, z6, z7, z8⟩, f0, f1, f2, f3, f4, f5, f6, f7, f8⟩ := row9_at hs1
        obtain ⟨⟨p0, p1, p2⟩, _⟩ := row3_at hp1
        obtain ⟨x0, x1, x2, x3, x4, x5, x6⟩ := row7_at hx1
        have hX1 : ¬ X = w.heap.size + 1 + 1 := by have := HXW.out; omega
        have hX2 : ¬ w.heap.size = w.heap.size + 1 + 1 := by omega
        have hs2 : (wq.setCell ⟨w.heap.size + 1 + 1, 1, none⟩ (.slice aq lq cq)).heap[w.heap.size + 1 + 1]? = some (.cells (s9 (.slice ai li ci) (.slice aq lq cq) (.slice ae le ce) rk rc rf rv ra rn) 81 (0, 0)) := heap_setCell_same wq _ 1 _ _ _ hs1
        have ho2 : Only (w.heap.size + 1 + 1) wq (wq.setCell ⟨w.heap.size + 1 + 1, 1, none⟩ (.slice aq lq cq)) := Only.set 1 _
        have HS2 := Lib.hid hs2
        have HP2 := Lib.hid (ho2.at hp1 (by omega))
        have HZ2 := Lib.hid (ho2.at hz1 (by omega))
        have HX2 := Lib.hid (ho2.at hx1 (by have := HXW.out; omega))
        have HJ2 := Lib.hid (hj1.fr (Fr.only ho2 (by have := HSZ.out; omega)))
        have HR2 := Lib.hid (hr1.fr (Fr.only ho2 (by have := HSZ.out; omega)))
        have HW2 := Lib.hid (hw1.fr (Fr.only ho2 (by have := HSZ.out; omega)))
        have HB2 := Lib.hid (hb1.trans (ho2.below (by omega) hb1.size))
        have HSZ2 := Lib.hid (Nat.le_trans hsz ho2.size)
        clear hrq hbq hs1 hp1 hz1 hx1 hsz hb1 hj1 hr1 hw1 hs2 ho2 HS1 HP1 HZ1 HXB HJ1 HR1 HW1 HB1 HSZ1
        go_wp2_with fail
        generalize (wq.setCell ⟨w.heap.size + 1 + 1, 1, none⟩ (.slice aq lq cq)) = w3' at HS2 HP2 HZ2 HX2 HJ2 HR2 HW2 HB2 HSZ2 ⊢
        clear hX1 hX2 p0 p1 p2 x0 x1 x2 x3 x4 x5 x6 z0 z1 z2 z3 z4 z5 z6 z7 z8 f0 f1 f2 f3 f4 f5 f6 f7 f8
        go_wp2
        go_roundw
        case rel => exact ⟨j + 1, _, _, _, _, by omega, by go_num, HN, HB2, HSZ2, HP2, HZ2, HS2, HJ2, HR2, HW2⟩
        case measure => simp [intOf]; omega
      · clear h1 h2 h3
        have HN := Lib.hid (show (⟨Jl, Rl, MM.insW (s, t, v, ad, nu) Wl, rk, rc, rf, rv, ra, rn⟩ : Sm) = MM.ofP ad nu (cs.take (j + 1)) by rw [← HN.out]; rfl)
        go_wp2_with fail
        refine (oWeigh _ Wl s t v ad nu wn HW1.out.rd HOS.out.w HLN.out.2.2).mono ?_
        rintro e wq ⟨vq, rfl, hrq, hbq⟩
        obtain ⟨aq, lq, cq, hvq⟩ := hrq.shape
        subst hvq
        have hs1 := below_block HS1.out hbq
        have hp1 := below_block HP1.out hbq
        have hz1 := below_block HZ1.out hbq
        have hx1 := below_block HXB.out hbq
        have hsz := Nat.le_trans HSZ1.out hbq.size
        have hb1 := bnext HB1.out hbq
        have hj1 := HJ1.out.fr (Fr.of hbq)
        have hr1 := HR1.out.fr (Fr.of hbq)
        have hw1 := hrq.mono HSZ1.out
        clear p0 p1 p2 x0 x1 x2 x3 x4 x5 x6 z0 z1 z2 z3 z4 z5 z6 z7 z8 f0 f1 f2 f3 f4 f5 f6 f7 f8
        obtain ⟨⟨z0, z1, z2, z3, z4, z5, z6, z7, z8⟩, f0, f1, f2, f3, f4, f5, f6, f7, f8⟩ := row9_at hs1
        obtain ⟨⟨p0, p1, p2⟩, _⟩ := row3_at hp1
        obtain ⟨x0, x1, x2, x3, x4, x5, x6⟩ := row7_at hx1
        have hX1 : ¬ X = w.heap.size + 1 + 1 := by have := HXW.out; omega
        have hX2 : ¬ w.heap.size = w.heap.size + 1 + 1 := by omega
        have hs2 : (wq.setCell ⟨w.heap.size + 1 + 1, 2, none⟩ (.slice aq lq cq)).heap[w.heap.size + 1 + 1]? = some (.cells (s9 (.slice ai li ci) (.slice ar lr cr) (.slice aq lq cq) rk rc rf rv ra rn) 81 (0, 0)) := heap_setCell_same wq _ 2 _ _ _ hs1
        have ho2 : Only (w.heap.size + 1 + 1) wq (wq.setCell ⟨w.heap.size + 1 + 1, 2, none⟩ (.slice aq lq cq)) := Only.set 2 _
        have HS2 := Lib.hid hs2
        have HP2 := Lib.hid (ho2.at hp1 (by omega))
        have HZ2 := Lib.hid (ho2.at hz1 (by omega))
        have HX2 := Lib.hid (ho2.at hx1 (by have := HXW.out; omega))
        have HJ2 := Lib.hid (hj1.fr (Fr.only ho2 (by have := HSZ.out; omega)))
        have HR2 := Lib.hid (hr1.fr (Fr.only ho2 (by have := HSZ.out; omega)))
        have HW2 := Lib.hid (hw1.fr (Fr.only ho2 (by have := HSZ.out; omega)))
        have HB2 := Lib.hid (hb1.trans (ho2.below (by omega) hb1.size))
        have HSZ2 := Lib.hid (Nat.le_trans hsz ho2.size)
        clear hrq hbq hs1 hp1 hz1 hx1 hsz hb1 hj1 hr1 hw1 hs2 ho2 HS1 HP1 HZ1 HXB HJ1 HR1 HW1 HB1 HSZ1
        go_wp2_with fail
        generalize (wq.setCell ⟨w.heap.size + 1 + 1, 2, none⟩ (.slice aq lq cq)) = w3' at HS2 HP2 HZ2 HX2 HJ2 HR2 HW2 HB2 HSZ2 ⊢
        clear hX1 hX2 p0 p1 p2 x0 x1 x2 x3 x4 x5 x6 z0 z1 z2 z3 z4 z5 z6 z7 z8 f0 f1 f2 f3 f4 f5 f6 f7 f8
        go_wp2
        go_roundw
        case rel => exact ⟨j + 1, _, _, _, _, by omega, by go_num, HN, HB2, HSZ2, HP2, HZ2, HS2, HJ2, HR2, HW2⟩
        case measure => simp [intOf]; omega
      · clear h1 h2
        have HN := Lib.hid (show (⟨Jl, Rl, Wl, x, y, z, v, ad, nu⟩ : Sm) = MM.ofP ad nu (cs.take (j + 1)) by rw [← HN.out]; rfl)
        have hs2 : ((((((wn.setCell ⟨w.heap.size + 1 + 1, 3, none⟩ (.int .i64 x)).setCell ⟨w.heap.size + 1 + 1, 4, none⟩ (.int .i64 y)).setCell ⟨w.heap.size + 1 + 1, 5, none⟩ (.int .i64 z)).setCell ⟨w.heap.size + 1 + 1, 6, none⟩ (.int .i64 v)).setCell ⟨w.heap.size + 1 + 1, 7, none⟩ (.int .i64 ad)).setCell ⟨w.heap.size + 1 + 1, 8, none⟩ (.int .i64 nu)).heap[w.heap.size + 1 + 1]? = some (.cells (s9 (.slice ai li ci) (.slice ar lr cr) (.slice ae le ce) x y z v ad nu) 81 (0, 0)) := by
          have t1 := heap_setCell_same wn (w.heap.size + 1 + 1) 3 _ _ (.int .i64 x) HS1.out
          have t2 := heap_setCell_same _ (w.heap.size + 1 + 1) 4 _ _ (.int .i64 y) t1
          have t3 := heap_setCell_same _ (w.heap.size + 1 + 1) 5 _ _ (.int .i64 z) t2
          have t4 := heap_setCell_same _ (w.heap.size + 1 + 1) 6 _ _ (.int .i64 v) t3
          have t5 := heap_setCell_same _ (w.heap.size + 1 + 1) 7 _ _ (.int .i64 ad) t4
          exact heap_setCell_same _ (w.heap.size + 1 + 1) 8 _ _ (.int .i64 nu) t5
        have ho2 : Only (w.heap.size + 1 + 1) wn ((((((wn.setCell ⟨w.heap.size + 1 + 1, 3, none⟩ (.int .i64 x)).setCell ⟨w.heap.size + 1 + 1, 4, none⟩ (.int .i64 y)).setCell ⟨w.heap.size + 1 + 1, 5, none⟩ (.int .i64 z)).setCell ⟨w.heap.size + 1 + 1, 6, none⟩ (.int .i64 v)).setCell ⟨w.heap.size + 1 + 1, 7, none⟩ (.int .i64 ad)).setCell ⟨w.heap.size + 1 + 1, 8, none⟩ (.int .i64 nu)) := ((((((Only.set 3 _).trans (Only.set 4 _)).trans (Only.set 5 _)).trans (Only.set 6 _)).trans (Only.set 7 _)).trans (Only.set 8 _))
        have HS2 := Lib.hid hs2
        have HP2 := Lib.hid (ho2.at HP1.out (by omega))
        have HZ2 := Lib.hid (ho2.at HZ1.out (by omega))
        have HJ2 := Lib.hid (HJ1.out.fr (Fr.only ho2 (by have := HSZ.out; omega)))
        have HR2 := Lib.hid (HR1.out.fr (Fr.only ho2 (by have := HSZ.out; omega)))
        have HW2 := Lib.hid (HW1.out.fr (Fr.only ho2 (by have := HSZ.out; omega)))
        have HB2 := Lib.hid (HB1.out.trans (ho2.below (by omega) HB1.out.size))
        have HSZ2 := Lib.hid (Nat.le_trans HSZ1.out ho2.size)
        have hX1 : ¬ X = w.heap.size + 1 + 1 := by have := HXW.out; omega
        have hX2 : ¬ w.heap.size = w.heap.size + 1 + 1 := by omega
        clear hs2 ho2
        go_wp2
        go_roundw
        case rel => exact ⟨j + 1, _, _, _, _, by omega, by go_num, HN, HB2, HSZ2, HP2, HZ2, HS2, HJ2, HR2, HW2⟩
        case measure => simp [intOf]; omega
    · have hq : ¬ ((j : Int) < (cs.length : Int)) := by omega
      have HRAW := Lib.hid (show (⟨Jl, Rl, Wl, rk, rc, rf, rv, ra, rn⟩ : Sm) = MM.ofP ad nu cs by rw [hraw.out, List.take_of_length_le (by omega)])
      obtain ⟨⟨z0, z1, z2, z3, z4, z5, z6, z7, z8⟩, _⟩ := row9_at hsb.out
      obtain ⟨⟨y0, y1, y2, y3, y4, y5, y6, y7, y8⟩, g0, g1, g2, g3, g4, g5, g6, g7, g8⟩ := row9_at hz.out
      clear hraw
      go_wp2
      have hput := row9_put hz.out (.slice ai li ci) (.slice ar lr cr) (.slice ae le ce) (.int .i64 rk) (.int .i64 rc) (.int .i64 rf) (.int .i64 rv) (.int .i64 ra) (.int .i64 rn) w.heap.size (by omega)
      have hon := onlyc9 (w := wr) (g := w.heap.size + 1) (.slice ai li ci) (.slice ar lr cr) (.slice ae le ce) (.int .i64 rk) (.int .i64 rc) (.int .i64 rf) (.int .i64 rv) (.int .i64 ra) (.int .i64 rn)
      refine rof_ret rfl hput.1 rfl ⟨_, rfl, ?_, hb.out.trans hput.2⟩
      rw [← HRAW.out]
      intro w'' hf
      have hlast := (Fr.only (B := w3.heap.size) hon (by have := HSZ.out; omega)).trans (hf.mono (by have := HSZ.out; omega))
      exact ⟨_, _, _, rfl, hoj.out _ hlast, hor.out _ hlast, how.out _ hlast⟩

end Go.Proofs.YthfpafnljnnndaaGreat

namespace Go.Proofs.YthfpafnljnnndaaGreat
open Go.RowKit Go.Joins
open MM (Mem Ent Sm Tri)

/-! The lists that Join has built so far. -/
def accI (l m : List Int) (j : Nat) : List Int := (m.take j).foldl (fun l w => MM.insI w l) l
def accW (l m : List Ent) (j : Nat) : List Ent := (m.take j).foldl (fun l w => MM.insW w l) l
theorem accI_succ (l m : List Int) (j : Nat) (x : Int) (h : m[j]? = some x) : accI l m (j + 1) = MM.insI x (accI l m j) := by
  unfold accI; rw [List.take_add_one, h, List.foldl_append]; rfl
theorem accW_succ (l m : List Ent) (j : Nat) (x : Ent) (h : m[j]? = some x) : accW l m (j + 1) = MM.insW x (accW l m j) := by
  unfold accW; rw [List.take_add_one, h, List.foldl_append]; rfl
theorem accI_ok {l m : List Int} (h : MM.Srt MM.kI l) (hl : ∀ x ∈ l, 1 ≤ x ∧ x ≤ 12) (hm : ∀ x ∈ m, 1 ≤ x ∧ x ≤ 12) (j : Nat) : MM.Srt MM.kI (accI l m j) ∧ (∀ x ∈ accI l m j, 1 ≤ x ∧ x ≤ 12) ∧ (accI l m j).length ≤ 1000000 := by
  have hg : ∀ (m l : List Int), MM.Srt MM.kI l → (∀ x ∈ l, 1 ≤ x ∧ x ≤ 12) → (∀ x ∈ m, 1 ≤ x ∧ x ≤ 12) → MM.Srt MM.kI (m.foldl (fun l w => MM.insI w l) l) ∧ ∀ x ∈ m.foldl (fun l w => MM.insI w l) l, 1 ≤ x ∧ x ≤ 12 := by
    intro m
    induction m with
    | nil => intro l h hl _; exact ⟨h, hl⟩
    | cons y m ih =>
      intro l h hl hm
      refine ih _ (MM.ins_srt MM.kI MM.fstI MM.hkI y h) (fun x hx => ?_) (fun x hx => hm x (by simp [hx]))
      rcases (MM.mem_insI h).1 hx with h1 | rfl
      · exact hl x h1
      · exact hm x (by simp)
  have h1 := hg (m.take j) l h hl (fun x hx => hm x (List.mem_of_mem_take hx))
  have h2 := srt_len (a := 1) h1.1 (fun x hx => h1.2 x hx) (by decide)
  exact ⟨h1.1, h1.2, by unfold accI; omega⟩
theorem accW_ok {l m : List Ent} (h : MM.Srt MM.kW l) (hl : ∀ x ∈ l, MM.OkE x) (hm : ∀ x ∈ m, MM.OkE x) (j : Nat) : MM.Srt MM.kW (accW l m j) ∧ (accW l m j).length ≤ 1000000 := by
  have h0 : ∀ (w : Ent) (l : List Ent), MM.Srt MM.kW l → (∀ x ∈ l, MM.OkE x) → MM.OkE w → ∀ e ∈ MM.insW w l, MM.OkE e := by
    intro w l h hl hw e he
    have hs : MM.Srt MM.kW (MM.insW w l) := MM.ins_srt MM.kW MM.lat MM.hkW w h
    have h1 := MM.lk_mem MM.kW hs he
    rw [MM.insW, MM.lk_ins MM.kW MM.lat MM.hkW w h] at h1
    by_cases hz : MM.kW w = MM.kW e
    · rw [if_pos hz] at h1
      cases h2 : MM.lk MM.kW l (MM.kW e) with
      | none => rw [h2] at h1; cases h1; exact hw
      | some p =>
        rw [h2] at h1
        have h3 : some (MM.lat p w) = some e := h1
        rw [← Option.some.inj h3]
        unfold MM.lat
        split
        · exact hw
        · exact hl p (MM.lk_some MM.kW h2).1
    · rw [if_neg hz, MM.comb_none] at h1
      exact hl e (MM.lk_some MM.kW h1).1
  have hg : ∀ (m l : List Ent), MM.Srt MM.kW l → (∀ x ∈ l, MM.OkE x) → (∀ x ∈ m, MM.OkE x) → MM.Srt MM.kW (m.foldl (fun l w => MM.insW w l) l) ∧ ∀ x ∈ m.foldl (fun l w => MM.insW w l) l, MM.OkE x := by
    intro m
    induction m with
    | nil => intro l h hl _; exact ⟨h, hl⟩
    | cons y m ih =>
      intro l h hl hm
      exact ih _ (MM.ins_srt MM.kW MM.lat MM.hkW y h) (h0 y l h hl (hm y (by simp))) (fun x hx => hm x (by simp [hx]))
  have h1 := hg (m.take j) l h hl (fun x hx => hm x (List.mem_of_mem_take hx))
  have h2 := srt_len (a := 1) h1.1 (fun x hx => (h1.2 x hx).1) (by decide)
  exact ⟨h1.1, by unfold accW; omega⟩

set_option maxRecDepth 100000 in
set_option maxHeartbeats 16000000 in
theorem rJoin (va vb : Value) (s t : Sm) (w : World) (ha : RdS w va s) (hb : RdS w vb t) (hos : MM.OkS s) (hot : MM.OkS t) :
    Calls Tryz.prog 78 #[va, vb] w fun e w' => ∃ v, e = .returned v ∧ (∀ w'', Fr w.heap.size w' w'' → RdS w'' va s → RdS w'' v (MM.join s t)) ∧ Below w.heap.size w w' := by
  rw [← MM.joinR_eq hos hot]
  obtain ⟨x, y, z, rfl, hj, hr, hw⟩ := ha
  obtain ⟨x', y', z', rfl, hj', hr', hw'⟩ := hb
  have HI := Lib.hid (accI_ok hos.j hos.js hot.js)
  have HR := Lib.hid (accI_ok hos.r hos.rs hot.rs)
  have HWt := Lib.hid (accW_ok hos.w hos.ws hot.ws)
  have hLL := okS_len hot
  have hRS := hos
  clear hRS hos hot
  obtain ⟨J, R1, W, k, c, f, v, a, n⟩ := s
  obtain ⟨J', R1', W', k', c', f', v', a', n'⟩ := t
  dsimp only at *
  have hfin : ∀ u : Bool, MM.useR ⟨J, R1, W, k, c, f, v, a, n⟩ ⟨J', R1', W', k', c', f', v', a', n'⟩ = u → MM.joinR ⟨J, R1, W, k, c, f, v, a, n⟩ ⟨J', R1', W', k', c', f', v', a', n'⟩ = ⟨accI J J' J'.length, accI R1 R1' R1'.length, accW W W' W'.length, if u then k' else k, if u then c' else c, if u then f' else f, if u then v' else v, if u then a' else a, if u then n' else n⟩ := by
    intro u hu; rw [← hu]; unfold MM.joinR accI accW; simp [List.take_length]
  have hU : MM.useR ⟨J, R1, W, k, c, f, v, a, n⟩ ⟨J', R1', W', k', c', f', v', a', n'⟩ = (!decide (k' = 0 ∧ c' = 0 ∧ f' = 0) && (decide (k = 0 ∧ c = 0 ∧ f = 0) || MM.aft (v', a', n') (v, a, n))) := rfl
  rw [hU] at hfin
  clear hU
  generalize MM.joinR ⟨J, R1, W, k, c, f, v, a, n⟩ ⟨J', R1', W', k', c', f', v', a', n'⟩ = JN at hfin ⊢
  have HFIN := Lib.hid hfin
  obtain ⟨w4, hw4, hB, hsz, hA, hBb, hZ, hS⟩ := join_boxes w x y z x' y' z' k c f v a n k' c' f' v' a' n'
  have HJ0 := Lib.hid (show RdI w4 x (accI J J' 0) from hj.below hB)
  have HR0 := Lib.hid (show RdI w4 y (accI R1 R1' 0) from hr.below hB)
  have HW0 := Lib.hid (show RdW w4 z (accW W W' 0) from hw.below hB)
  have HX := Lib.hid (And.intro hj' (And.intro hr' hw'))
  have HXa := Lib.hid (And.intro hj (And.intro hr hw))
  have HLL := Lib.hid hLL
  have HB := Lib.hid hB
  have HSZ := Lib.hid hsz
  have HW4 := Lib.hid hw4
  have HA := Lib.hid hA
  have HBb := Lib.hid hBb
  have HZ := Lib.hid hZ
  have HS := Lib.hid hS
  obtain ⟨ax, lx, cx, hx⟩ : ∃ a l c, x = .slice a l c := by obtain ⟨a, c, h, _⟩ := hj.shape; exact ⟨a, _, c, h⟩
  obtain ⟨ay, ly, cy, hy⟩ : ∃ a l c, y = .slice a l c := by obtain ⟨a, c, h, _⟩ := hr.shape; exact ⟨a, _, c, h⟩
  obtain ⟨az, lz, cz, hz⟩ : ∃ a l c, z = .slice a l c := by obtain ⟨a, c, h, _⟩ := hw.shape; exact ⟨a, _, c, h⟩
  obtain ⟨ax', cx', rfl, _⟩ := hj'.shape
  obtain ⟨ay', cy', rfl, _⟩ := hr'.shape
  obtain ⟨az', cz', rfl, _⟩ := hw'.shape
  subst hx hy hz
  obtain ⟨RA, hRA⟩ : ∃ RA : World → Prop, RA = fun w'' => RdI w'' (.slice ax lx cx) J ∧ RdI w'' (.slice ay ly cy) R1 ∧ RdW w'' (.slice az lz cz) W := ⟨_, rfl⟩
  have HRA1 := Lib.hid (show ∀ w'', Below w.heap.size w w'' → RA w'' from fun w'' hb => by rw [hRA]; exact ⟨hj.below hb, hr.below hb, hw.below hb⟩)
  have HRA2 := Lib.hid (show ∀ w'', RA w'' → RdI w'' (.slice ax lx cx) J ∧ RdI w'' (.slice ay ly cy) R1 ∧ RdW w'' (.slice az lz cz) W from fun w'' hb => by rw [hRA] at hb; exact hb)
  have HRA3 := Lib.hid (show ∀ w'', RdS w'' (sv (.slice ax lx cx) (.slice ay ly cy) (.slice az lz cz) k c f v a n) ⟨J, R1, W, k, c, f, v, a, n⟩ → RA w'' from fun w'' hb => by
    rw [hRA]
    obtain ⟨x0, y0, z0, h0, h1, h2, h3⟩ := hb
    dsimp only at h0 h1 h2 h3
    unfold sv at h0
    injection h0 with h0
    injection h0 with h0
    injection h0 with e0 h0
    injection h0 with e1 h0
    injection h0 with e2 h0
    subst e0 e1 e2
    exact ⟨h1, h2, h3⟩)
  clear hRA hj hj' hr hr' hw hw' hfin hA hBb hZ hS hB hsz hw4 hLL
  go_enter Tryz.func78, Tryz.ntmps78
  go_wp2
  rw [HW4.out]
  go_loopw [6] (fun i wr => ∃ (j : Nat) (vJ vR vW : Value), j ≤ J'.length ∧ i = .int .i64 j ∧ Hid (Below w.heap.size w wr) ∧ Hid (w4.heap.size ≤ wr.heap.size) ∧ Hid (wr.heap[w.heap.size]? = some (.cells (s9 (.slice ax lx cx) (.slice ay ly cy) (.slice az lz cz) k c f v a n) 81 (0, 0))) ∧ Hid (wr.heap[w.heap.size + 1]? = some (.cells (s9 (.slice ax' J'.length cx') (.slice ay' R1'.length cy') (.slice az' W'.length cz') k' c' f' v' a' n') 81 (0, 0))) ∧ Hid (wr.heap[w.heap.size + 1 + 1]? = some (.cells (s9 (.slice none 0 0) (.slice none 0 0) (.slice none 0 0) 0 0 0 0 0 0) 81 (0, 0))) ∧ Hid (wr.heap[w.heap.size + 1 + 1 + 1]? = some (.cells (s9 vJ vR vW k c f v a n) 81 (0, 0))) ∧ Hid (∀ w'', Fr w4.heap.size wr w'' → RA w'' → RdI w'' vJ (accI J J' j)) ∧ Hid (∀ w'', Fr w4.heap.size wr w'' → RA w'' → RdI w'' vR (accI R1 R1' 0)) ∧ Hid (∀ w'', Fr w4.heap.size wr w'' → RA w'' → RdW w'' vW (accW W W' 0))) (fun i _ => J'.length - (intOf i).toNat)
  case atStart => exact ⟨0, _, _, _, Nat.zero_le _, rfl, HB, Lib.hid (Nat.le_refl _), HA, HBb, HZ, HS, Lib.hid (fun w'' _ hb => (HRA2.out _ hb).1), Lib.hid (fun w'' _ hb => (HRA2.out _ hb).2.1), Lib.hid (fun w'' _ hb => (HRA2.out _ hb).2.2)⟩
  case round =>
    clear HB HA HBb HZ HS HJ0 HR0 HW0 HW4
    obtain ⟨j, vJ, vR, vW, hj, rfl, HB, HG, HA, HBb, HZ, HS, HJ1, HR1, HW1⟩ := hrel
    obtain ⟨aJ, lJ, cJ, hvJ⟩ : ∃ a l c, vJ = .slice a l c := by obtain ⟨a, c, h, _⟩ := (HJ1.out _ (Fr.refl _ _) (HRA1.out _ HB.out)).shape; exact ⟨a, _, c, h⟩
    obtain ⟨aR, lR, cR, hvR⟩ : ∃ a l c, vR = .slice a l c := by obtain ⟨a, c, h, _⟩ := (HR1.out _ (Fr.refl _ _) (HRA1.out _ HB.out)).shape; exact ⟨a, _, c, h⟩
    obtain ⟨aW, lW, cW, hvW⟩ : ∃ a l c, vW = .slice a l c := by obtain ⟨a, c, h, _⟩ := (HW1.out _ (Fr.refl _ _) (HRA1.out _ HB.out)).shape; exact ⟨a, _, c, h⟩
    subst hvJ hvR hvW
    obtain ⟨⟨b0, b1, b2, b3, b4, b5, b6, b7, b8⟩, _⟩ := row9_at HBb.out
    by_cases hlt : j < J'.length
    · have hq : (j : Int) < (J'.length : Int) := by omega
      have hjb : (j : Int) ≤ 1000000 := by have := HLL.out; omega
      obtain ⟨q1, hx⟩ : ∃ m : Int, J'[j]? = some m := ⟨_, List.getElem?_eq_getElem hlt⟩
      have HSC := Lib.hid (accI_succ J J' j _ hx)
      have HAC := Lib.hid (HI.out j)
      obtain ⟨o1, oo, hi, hbb, d0⟩ := atI (HX.out.1.below HB.out) j q1 hx
      have HGE := Lib.hid hx
      have HHI := Lib.hid hi
      clear hx hi hbb d0
      go_wp2
      refine wp_region_held_drew (S := fun w' => w'.heap[w.heap.size + 1]? = some (.cells (s9 (.slice ax' J'.length cx') (.slice ay' R1'.length cy') (.slice az' W'.length cz') k' c' f' v' a' n') 81 (0, 0)) ∧ Below w.heap.size w w') (by kernel_rfl) ⟨HBb.out, HB.out.drew⟩ (fun _ => ?_)
      have hS : wr.drew.heap[w.heap.size + 1]? = some (.cells (s9 (.slice ax' J'.length cx') (.slice ay' R1'.length cy') (.slice az' W'.length cz') k' c' f' v' a' n') 81 (0, 0)) ∧ Below w.heap.size w wr.drew := ⟨HBb.out, HB.out.drew⟩
      replace HG := Lib.hid (show w4.heap.size ≤ wr.drew.heap.size from HG.out)
      replace HA := Lib.hid (show wr.drew.heap[w.heap.size]? = some (.cells (s9 (.slice ax lx cx) (.slice ay ly cy) (.slice az lz cz) k c f v a n) 81 (0, 0)) from HA.out)
      replace HZ := Lib.hid (show wr.drew.heap[w.heap.size + 1 + 1]? = some (.cells (s9 (.slice none 0 0) (.slice none 0 0) (.slice none 0 0) 0 0 0 0 0 0) 81 (0, 0)) from HZ.out)
      replace HS := Lib.hid (show wr.drew.heap[w.heap.size + 1 + 1 + 1]? = some (.cells (s9 (.slice aJ lJ cJ) (.slice aR lR cR) (.slice aW lW cW) k c f v a n) 81 (0, 0)) from HS.out)
      replace HJ1 := Lib.hid (show ∀ w'', Fr w4.heap.size wr.drew w'' → RA w'' → RdI w'' (.slice aJ lJ cJ) (accI J J' j) from fun w'' hf hb => HJ1.out w'' ((Fr.of (B := w4.heap.size) (Below.refl _ wr).drew).trans hf) hb)
      replace HR1 := Lib.hid (show ∀ w'', Fr w4.heap.size wr.drew w'' → RA w'' → RdI w'' (.slice aR lR cR) (accI R1 R1' 0) from fun w'' hf hb => HR1.out w'' ((Fr.of (B := w4.heap.size) (Below.refl _ wr).drew).trans hf) hb)
      replace HW1 := Lib.hid (show ∀ w'', Fr w4.heap.size wr.drew w'' → RA w'' → RdW w'' (.slice aW lW cW) (accW W W' 0) from fun w'' hf hb => HW1.out w'' ((Fr.of (B := w4.heap.size) (Below.refl _ wr).drew).trans hf) hb)
      clear HB HBb b0 b1 b2 b3 b4 b5 b6 b7 b8
      generalize wr.drew = wa at hS HG HA HZ HS HJ1 HR1 HW1 ⊢
      refine takeH (i := 0) (v := ?_) rfl (by kernel_rfl) (by kernel_rfl) (by kernel_rfl) (fun _ _ _ h => h) (Or.inl ⟨by rfl, ?_⟩) (by assumption) ?_
      rotate_left
      · (intro w hSw; (try dsimp only at hSw); go_simp; first | done | with_reducible rfl)
      (try simp only [Act.put, List.setIfInBounds_toArray, List.set_cons_zero, List.set_cons_succ])
      refine takeH (i := 2) (v := ?_) rfl (by kernel_rfl) (by kernel_rfl) (by kernel_rfl) (fun _ _ _ h => h) (Or.inl ⟨by rfl, ?_⟩) (by assumption) ?_
      rotate_left
      · (intro w hSw; (try dsimp only at hSw); go_simp; first | done | with_reducible rfl)
      (try simp only [Act.put, List.setIfInBounds_toArray, List.set_cons_zero, List.set_cons_succ])
      refine takeH (i := 3) (v := ?_) rfl (by kernel_rfl) (by kernel_rfl) (by kernel_rfl) (fun _ _ _ h => h) (Or.inl ⟨by rfl, ?_⟩) (by assumption) ?_
      rotate_left
      · (intro w hSw; (try dsimp only at hSw); obtain ⟨⟨b0, b1, b2, b3, b4, b5, b6, b7, b8⟩, _⟩ := row9_at hSw.1; go_simp; first | done | with_reducible rfl)
      (try simp only [Act.put, List.setIfInBounds_toArray, List.set_cons_zero, List.set_cons_succ])
      refine takeH (i := 4) (v := ?_) rfl (by kernel_rfl) (by kernel_rfl) (by kernel_rfl) (fun _ _ _ h => h) (Or.inl ⟨by rfl, ?_⟩) (by assumption) ?_
      rotate_left
      · (intro w hSw; (try dsimp only at hSw); go_simp; first | done | with_reducible rfl)
      (try simp only [Act.put, List.setIfInBounds_toArray, List.set_cons_zero, List.set_cons_succ])
      refine takeH (i := 5) (v := ?_) rfl (by kernel_rfl) (by kernel_rfl) (by kernel_rfl) (fun _ _ _ h => h) (Or.inl ⟨by rfl, ?_⟩) (by assumption) ?_
      rotate_left
      · (intro w hSw; (try dsimp only at hSw); have hi := HHI.out w; go_simp; first | done | with_reducible rfl)
      (try simp only [Act.put, List.setIfInBounds_toArray, List.set_cons_zero, List.set_cons_succ])
      refine takeH (i := 6) (v := ?_) rfl (by kernel_rfl) (by kernel_rfl) (by kernel_rfl) (fun _ _ _ h => h) (Or.inl ⟨by rfl, ?_⟩) (by assumption) ?_
      rotate_left
      · (intro w hSw; (try dsimp only at hSw); obtain ⟨o1', oo', hi', _, d0⟩ := atI (HX.out.1.below hSw.2) j q1 HGE.out; have he := (HHI.out w).symm.trans (hi' w); injection he with he; injection he with he; injection he with he; injection he with he1 he2; subst he1; subst he2; go_simp; first | done | with_reducible rfl)
      (try simp only [Act.put, List.setIfInBounds_toArray, List.set_cons_zero, List.set_cons_succ])
      refine wpAnyH_ready (rs := [1]) (by kernel_rfl) (by simp) ?_
      refine stepH rfl (fun K hK => ?_) AllReadyH.nil
      obtain ⟨⟨s0, s1, s2, s3, s4, s5, s6, s7, s8⟩, _⟩ := row9_at HS.out
      go_simp
      refine hK.out _ _ (hS) (fun _ => ?_)
      clear hK K
      (try simp only [Act.put, List.setIfInBounds_toArray, List.set_cons_zero, List.set_cons_succ])
      clear s0 s1 s2 s3 s4 s5 s6 s7 s8
      refine wpAnyH_ready (rs := [7]) (by kernel_rfl) (by simp) ?_
      refine stepH rfl (fun K hK => ?_) AllReadyH.nil
      go_simp
      refine (oInsert _ _ q1 wa (HJ1.out wa (Fr.refl _ _) (HRA1.out _ hS.2)) HAC.out.1 HAC.out.2.2).mono ?_
      rintro e wq ⟨vq, rfl, hrq, hbq⟩
      obtain ⟨aq, lq, cq, hvq⟩ := hrq.shape
      subst hvq
      replace hS : wq.heap[w.heap.size + 1]? = some (.cells (s9 (.slice ax' J'.length cx') (.slice ay' R1'.length cy') (.slice az' W'.length cz') k' c' f' v' a' n') 81 (0, 0)) ∧ Below w.heap.size w wq := ⟨below_block hS.1 hbq, bnext hS.2 hbq⟩
      have hs1 := below_block HS.out hbq
      replace HA := Lib.hid (below_block HA.out hbq)
      replace HZ := Lib.hid (below_block HZ.out hbq)
      replace HJ1 := Lib.hid (hrq.mono HG.out)
      replace HR1 := Lib.hid (fun w'' (hf : Fr w4.heap.size wq w'') hb => HR1.out w'' ((Fr.of hbq).trans hf) hb)
      replace HW1 := Lib.hid (fun w'' (hf : Fr w4.heap.size wq w'') hb => HW1.out w'' ((Fr.of hbq).trans hf) hb)
      rw [← HSC.out] at HJ1
      replace HG := Lib.hid (Nat.le_trans HG.out hbq.size)
      clear hrq hbq HS
      go_wp2_with fail
      refine hK.out _ _ (hS) (fun _ => ?_)
      clear hK K
      (try simp only [Act.put, List.setIfInBounds_toArray, List.set_cons_zero, List.set_cons_succ])
      refine takeH (i := 8) (v := ?_) rfl (by kernel_rfl) (by kernel_rfl) (by kernel_rfl) (fun _ _ _ h => h) (Or.inl ⟨by rfl, ?_⟩) (by assumption) ?_
      rotate_left
      · (intro w hSw; (try dsimp only at hSw); go_simp; first | done | with_reducible rfl)
      (try simp only [Act.put, List.setIfInBounds_toArray, List.set_cons_zero, List.set_cons_succ])
      obtain ⟨⟨s0, s1, s2, s3, s4, s5, s6, s7, s8⟩, f0, f1, f2, f3, f4, f5, f6, f7, f8⟩ := row9_at hs1
      have hs2 : (wq.setCell ⟨w.heap.size + 1 + 1 + 1, 0, none⟩ (.slice aq lq cq)).heap[w.heap.size + 1 + 1 + 1]? = some (.cells (s9 (.slice aq lq cq) (.slice aR lR cR) (.slice aW lW cW) k c f v a n) 81 (0, 0)) := heap_setCell_same wq _ 0 _ _ _ hs1
      have ho2 : Only (w.heap.size + 1 + 1 + 1) wq (wq.setCell ⟨w.heap.size + 1 + 1 + 1, 0, none⟩ (.slice aq lq cq)) := Only.set 0 _
      replace hS : (wq.setCell ⟨w.heap.size + 1 + 1 + 1, 0, none⟩ (.slice aq lq cq)).heap[w.heap.size + 1]? = some (.cells (s9 (.slice ax' J'.length cx') (.slice ay' R1'.length cy') (.slice az' W'.length cz') k' c' f' v' a' n') 81 (0, 0)) ∧ Below w.heap.size w (wq.setCell ⟨w.heap.size + 1 + 1 + 1, 0, none⟩ (.slice aq lq cq)) := ⟨ho2.at hS.1 (by omega), hS.2.trans (ho2.below (by omega) hS.2.size)⟩
      replace HA := Lib.hid (ho2.at HA.out (by omega))
      replace HZ := Lib.hid (ho2.at HZ.out (by omega))
      have HS := Lib.hid hs2
      have hfo : Fr w4.heap.size wq (wq.setCell ⟨w.heap.size + 1 + 1 + 1, 0, none⟩ (.slice aq lq cq)) := Fr.only ho2 (by have := HSZ.out; omega)
      replace HJ1 := Lib.hid (fun w'' (hf : Fr w4.heap.size (wq.setCell ⟨w.heap.size + 1 + 1 + 1, 0, none⟩ (.slice aq lq cq)) w'') (_ : RA w'') => HJ1.out w'' (hfo.trans hf))
      replace HR1 := Lib.hid (fun w'' (hf : Fr w4.heap.size (wq.setCell ⟨w.heap.size + 1 + 1 + 1, 0, none⟩ (.slice aq lq cq)) w'') hb => HR1.out w'' (hfo.trans hf) hb)
      replace HW1 := Lib.hid (fun w'' (hf : Fr w4.heap.size (wq.setCell ⟨w.heap.size + 1 + 1 + 1, 0, none⟩ (.slice aq lq cq)) w'') hb => HW1.out w'' (hfo.trans hf) hb)
      replace HG := Lib.hid (Nat.le_trans HG.out ho2.size)
      clear hs2 ho2 hfo
      refine wpAnyH_ready (rs := [9]) (by kernel_rfl) (by simp) ?_
      refine stepH rfl (fun K hK => ?_) AllReadyH.nil
      go_simp
      refine hK.out _ _ (hS) (fun _ => ?_)
      clear hK K
      (try simp only [Act.put, List.setIfInBounds_toArray, List.set_cons_zero, List.set_cons_succ])
      refine wpAnyH_done (by kernel_rfl) ?_ _
      generalize (wq.setCell ⟨w.heap.size + 1 + 1 + 1, 0, none⟩ (.slice aq lq cq)) = wz at hS HS HA HZ HJ1 HR1 HW1 HG ⊢
      have HB := Lib.hid hS.2
      have HBb := Lib.hid hS.1
      clear s0 s1 s2 s3 s4 s5 s6 s7 s8 f0 f1 f2 f3 f4 f5 f6 f7 f8 hs1 hS
      go_wp2
      go_roundw
      case rel => exact ⟨j + 1, _, _, _, by omega, by go_num, HB, HG, HA, HBb, HZ, HS, HJ1, HR1, HW1⟩
      case measure => simp [intOf]; omega
    · have hq : ¬ ((j : Int) < (J'.length : Int)) := by omega
      obtain rfl : j = J'.length := by omega
      obtain ⟨wo, rfl⟩ : ∃ wo, wo = wr := ⟨wr, rfl⟩
      clear b0 b1 b2 b3 b4 b5 b6 b7 b8 hj hlt
      obtain ⟨⟨b0, b1, b2, b3, b4, b5, b6, b7, b8⟩, _⟩ := row9_at HBb.out
      go_wp2
      clear b0 b1 b2 b3 b4 b5 b6 b7 b8 hq
      go_loopw [7] (fun i wr => ∃ (j : Nat) (vJ vR vW : Value), j ≤ R1'.length ∧ i = .int .i64 j ∧ Hid (Below w.heap.size w wr) ∧ Hid (w4.heap.size ≤ wr.heap.size) ∧ Hid (wr.heap[w.heap.size]? = some (.cells (s9 (.slice ax lx cx) (.slice ay ly cy) (.slice az lz cz) k c f v a n) 81 (0, 0))) ∧ Hid (wr.heap[w.heap.size + 1]? = some (.cells (s9 (.slice ax' J'.length cx') (.slice ay' R1'.length cy') (.slice az' W'.length cz') k' c' f' v' a' n') 81 (0, 0))) ∧ Hid (wr.heap[w.heap.size + 1 + 1]? = some (.cells (s9 (.slice none 0 0) (.slice none 0 0) (.slice none 0 0) 0 0 0 0 0 0) 81 (0, 0))) ∧ Hid (wr.heap[w.heap.size + 1 + 1 + 1]? = some (.cells (s9 vJ vR vW k c f v a n) 81 (0, 0))) ∧ Hid (∀ w'', Fr w4.heap.size wr w'' → RA w'' → RdI w'' vJ (accI J J' J'.length)) ∧ Hid (∀ w'', Fr w4.heap.size wr w'' → RA w'' → RdI w'' vR (accI R1 R1' j)) ∧ Hid (∀ w'', Fr w4.heap.size wr w'' → RA w'' → RdW w'' vW (accW W W' 0))) (fun i _ => R1'.length - (intOf i).toNat)
      case atStart => exact ⟨0, _, _, _, Nat.zero_le _, rfl, HB, HG, HA, HBb, HZ, HS, HJ1, HR1, HW1⟩
      case round =>
        clear HB HA HBb HZ HS HG HJ1 HR1 HW1
        obtain ⟨j, vJ, vR, vW, hj, rfl, HB, HG, HA, HBb, HZ, HS, HJ1, HR1, HW1⟩ := hrel
        obtain ⟨aJ, lJ, cJ, hvJ⟩ : ∃ a l c, vJ = .slice a l c := by obtain ⟨a, c, h, _⟩ := (HJ1.out _ (Fr.refl _ _) (HRA1.out _ HB.out)).shape; exact ⟨a, _, c, h⟩
        obtain ⟨aR, lR, cR, hvR⟩ : ∃ a l c, vR = .slice a l c := by obtain ⟨a, c, h, _⟩ := (HR1.out _ (Fr.refl _ _) (HRA1.out _ HB.out)).shape; exact ⟨a, _, c, h⟩
        obtain ⟨aW, lW, cW, hvW⟩ : ∃ a l c, vW = .slice a l c := by obtain ⟨a, c, h, _⟩ := (HW1.out _ (Fr.refl _ _) (HRA1.out _ HB.out)).shape; exact ⟨a, _, c, h⟩
        subst hvJ hvR hvW
        obtain ⟨⟨b0, b1, b2, b3, b4, b5, b6, b7, b8⟩, _⟩ := row9_at HBb.out
        by_cases hlt : j < R1'.length
        · have hq : (j : Int) < (R1'.length : Int) := by omega
          have hjb : (j : Int) ≤ 1000000 := by have := HLL.out; omega
          obtain ⟨q1, hx⟩ : ∃ m : Int, R1'[j]? = some m := ⟨_, List.getElem?_eq_getElem hlt⟩
          have HSC := Lib.hid (accI_succ R1 R1' j _ hx)
          have HAC := Lib.hid (HR.out j)
          obtain ⟨o1, oo, hi, hbb, d0⟩ := atI (HX.out.2.1.below HB.out) j q1 hx
          have HGE := Lib.hid hx
          have HHI := Lib.hid hi
          clear hx hi hbb d0
          go_wp2
          refine wp_region_held_drew (S := fun w' => w'.heap[w.heap.size + 1]? = some (.cells (s9 (.slice ax' J'.length cx') (.slice ay' R1'.length cy') (.slice az' W'.length cz') k' c' f' v' a' n') 81 (0, 0)) ∧ Below w.heap.size w w') (by kernel_rfl) ⟨HBb.out, HB.out.drew⟩ (fun _ => ?_)
          have hS : wr.drew.heap[w.heap.size + 1]? = some (.cells (s9 (.slice ax' J'.length cx') (.slice ay' R1'.length cy') (.slice az' W'.length cz') k' c' f' v' a' n') 81 (0, 0)) ∧ Below w.heap.size w wr.drew := ⟨HBb.out, HB.out.drew⟩
          replace HG := Lib.hid (show w4.heap.size ≤ wr.drew.heap.size from HG.out)
          replace HA := Lib.hid (show wr.drew.heap[w.heap.size]? = some (.cells (s9 (.slice ax lx cx) (.slice ay ly cy) (.slice az lz cz) k c f v a n) 81 (0, 0)) from HA.out)
          replace HZ := Lib.hid (show wr.drew.heap[w.heap.size + 1 + 1]? = some (.cells (s9 (.slice none 0 0) (.slice none 0 0) (.slice none 0 0) 0 0 0 0 0 0) 81 (0, 0)) from HZ.out)
          replace HS := Lib.hid (show wr.drew.heap[w.heap.size + 1 + 1 + 1]? = some (.cells (s9 (.slice aJ lJ cJ) (.slice aR lR cR) (.slice aW lW cW) k c f v a n) 81 (0, 0)) from HS.out)
          replace HJ1 := Lib.hid (show ∀ w'', Fr w4.heap.size wr.drew w'' → RA w'' → RdI w'' (.slice aJ lJ cJ) (accI J J' J'.length) from fun w'' hf hb => HJ1.out w'' ((Fr.of (B := w4.heap.size) (Below.refl _ wr).drew).trans hf) hb)
          replace HR1 := Lib.hid (show ∀ w'', Fr w4.heap.size wr.drew w'' → RA w'' → RdI w'' (.slice aR lR cR) (accI R1 R1' j) from fun w'' hf hb => HR1.out w'' ((Fr.of (B := w4.heap.size) (Below.refl _ wr).drew).trans hf) hb)
          replace HW1 := Lib.hid (show ∀ w'', Fr w4.heap.size wr.drew w'' → RA w'' → RdW w'' (.slice aW lW cW) (accW W W' 0) from fun w'' hf hb => HW1.out w'' ((Fr.of (B := w4.heap.size) (Below.refl _ wr).drew).trans hf) hb)
          clear HB HBb b0 b1 b2 b3 b4 b5 b6 b7 b8
          generalize wr.drew = wa at hS HG HA HZ HS HJ1 HR1 HW1 ⊢
          refine takeH (i := 0) (v := ?_) rfl (by kernel_rfl) (by kernel_rfl) (by kernel_rfl) (fun _ _ _ h => h) (Or.inl ⟨by rfl, ?_⟩) (by assumption) ?_
          rotate_left
          · (intro w hSw; (try dsimp only at hSw); go_simp; first | done | with_reducible rfl)
          (try simp only [Act.put, List.setIfInBounds_toArray, List.set_cons_zero, List.set_cons_succ])
          refine takeH (i := 2) (v := ?_) rfl (by kernel_rfl) (by kernel_rfl) (by kernel_rfl) (fun _ _ _ h => h) (Or.inl ⟨by rfl, ?_⟩) (by assumption) ?_
          rotate_left
          · (intro w hSw; (try dsimp only at hSw); go_simp; first | done | with_reducible rfl)
          (try simp only [Act.put, List.setIfInBounds_toArray, List.set_cons_zero, List.set_cons_succ])
          refine takeH (i := 3) (v := ?_) rfl (by kernel_rfl) (by kernel_rfl) (by kernel_rfl) (fun _ _ _ h => h) (Or.inl ⟨by rfl, ?_⟩) (by assumption) ?_
          rotate_left
          · (intro w hSw; (try dsimp only at hSw); obtain ⟨⟨b0, b1, b2, b3, b4, b5, b6, b7, b8⟩, _⟩ := row9_at hSw.1; go_simp; first | done | with_reducible rfl)
          (try simp only [Act.put, List.setIfInBounds_toArray, List.set_cons_zero, List.set_cons_succ])
          refine takeH (i := 4) (v := ?_) rfl (by kernel_rfl) (by kernel_rfl) (by kernel_rfl) (fun _ _ _ h => h) (Or.inl ⟨by rfl, ?_⟩) (by assumption) ?_
          rotate_left
          · (intro w hSw; (try dsimp only at hSw); go_simp; first | done | with_reducible rfl)
          (try simp only [Act.put, List.setIfInBounds_toArray, List.set_cons_zero, List.set_cons_succ])
          refine takeH (i := 5) (v := ?_) rfl (by kernel_rfl) (by kernel_rfl) (by kernel_rfl) (fun _ _ _ h => h) (Or.inl ⟨by rfl, ?_⟩) (by assumption) ?_
          rotate_left
          · (intro w hSw; (try dsimp only at hSw); have hi := HHI.out w; go_simp; first | done | with_reducible rfl)
          (try simp only [Act.put, List.setIfInBounds_toArray, List.set_cons_zero, List.set_cons_succ])
          refine takeH (i := 6) (v := ?_) rfl (by kernel_rfl) (by kernel_rfl) (by kernel_rfl) (fun _ _ _ h => h) (Or.inl ⟨by rfl, ?_⟩) (by assumption) ?_
          rotate_left
          · (intro w hSw; (try dsimp only at hSw); obtain ⟨o1', oo', hi', _, d0⟩ := atI (HX.out.2.1.below hSw.2) j q1 HGE.out; have he := (HHI.out w).symm.trans (hi' w); injection he with he; injection he with he; injection he with he; injection he with he1 he2; subst he1; subst he2; go_simp; first | done | with_reducible rfl)
          (try simp only [Act.put, List.setIfInBounds_toArray, List.set_cons_zero, List.set_cons_succ])
          refine wpAnyH_ready (rs := [1]) (by kernel_rfl) (by simp) ?_
          refine stepH rfl (fun K hK => ?_) AllReadyH.nil
          obtain ⟨⟨s0, s1, s2, s3, s4, s5, s6, s7, s8⟩, _⟩ := row9_at HS.out
          go_simp
          refine hK.out _ _ (hS) (fun _ => ?_)
          clear hK K
          (try simp only [Act.put, List.setIfInBounds_toArray, List.set_cons_zero, List.set_cons_succ])
          clear s0 s1 s2 s3 s4 s5 s6 s7 s8
          refine wpAnyH_ready (rs := [7]) (by kernel_rfl) (by simp) ?_
          refine stepH rfl (fun K hK => ?_) AllReadyH.nil
          go_simp
          refine (oInsert _ _ q1 wa (HR1.out wa (Fr.refl _ _) (HRA1.out _ hS.2)) HAC.out.1 HAC.out.2.2).mono ?_
          rintro e wq ⟨vq, rfl, hrq, hbq⟩
          obtain ⟨aq, lq, cq, hvq⟩ := hrq.shape
          subst hvq
          replace hS : wq.heap[w.heap.size + 1]? = some (.cells (s9 (.slice ax' J'.length cx') (.slice ay' R1'.length cy') (.slice az' W'.length cz') k' c' f' v' a' n') 81 (0, 0)) ∧ Below w.heap.size w wq := ⟨below_block hS.1 hbq, bnext hS.2 hbq⟩
          have hs1 := below_block HS.out hbq
          replace HA := Lib.hid (below_block HA.out hbq)
          replace HZ := Lib.hid (below_block HZ.out hbq)
          replace HJ1 := Lib.hid (fun w'' (hf : Fr w4.heap.size wq w'') hb => HJ1.out w'' ((Fr.of hbq).trans hf) hb)
          replace HR1 := Lib.hid (hrq.mono HG.out)
          replace HW1 := Lib.hid (fun w'' (hf : Fr w4.heap.size wq w'') hb => HW1.out w'' ((Fr.of hbq).trans hf) hb)
          rw [← HSC.out] at HR1
          replace HG := Lib.hid (Nat.le_trans HG.out hbq.size)
          clear hrq hbq HS
          go_wp2_with fail
          refine hK.out _ _ (hS) (fun _ => ?_)
          clear hK K
          (try simp only [Act.put, List.setIfInBounds_toArray, List.set_cons_zero, List.set_cons_succ])
          refine takeH (i := 8) (v := ?_) rfl (by kernel_rfl) (by kernel_rfl) (by kernel_rfl) (fun _ _ _ h => h) (Or.inl ⟨by rfl, ?_⟩) (by assumption) ?_
          rotate_left
          · (intro w hSw; (try dsimp only at hSw); go_simp; first | done | with_reducible rfl)
          (try simp only [Act.put, List.setIfInBounds_toArray, List.set_cons_zero, List.set_cons_succ])
          obtain ⟨⟨s0, s1, s2, s3, s4, s5, s6, s7, s8⟩, f0, f1, f2, f3, f4, f5, f6, f7, f8⟩ := row9_at hs1
          have hs2 : (wq.setCell ⟨w.heap.size + 1 + 1 + 1, 1, none⟩ (.slice aq lq cq)).heap[w.heap.size + 1 + 1 + 1]? = some (.cells (s9 (.slice aJ lJ cJ) (.slice aq lq cq) (.slice aW lW cW) k c f v a n) 81 (0, 0)) := heap_setCell_same wq _ 1 _ _ _ hs1
          have ho2 : Only (w.heap.size + 1 + 1 + 1) wq (wq.setCell ⟨w.heap.size + 1 + 1 + 1, 1, none⟩ (.slice aq lq cq)) := Only.set 1 _
          replace hS : (wq.setCell ⟨w.heap.size + 1 + 1 + 1, 1, none⟩ (.slice aq lq cq)).heap[w.heap.size + 1]? = some (.cells (s9 (.slice ax' J'.length cx') (.slice ay' R1'.length cy') (.slice az' W'.length cz') k' c' f' v' a' n') 81 (0, 0)) ∧ Below w.heap.size w (wq.setCell ⟨w.heap.size + 1 + 1 + 1, 1, none⟩ (.slice aq lq cq)) := ⟨ho2.at hS.1 (by omega), hS.2.trans (ho2.below (by omega) hS.2.size)⟩
          replace HA := Lib.hid (ho2.at HA.out (by omega))
          replace HZ := Lib.hid (ho2.at HZ.out (by omega))
          have HS := Lib.hid hs2
          have hfo : Fr w4.heap.size wq (wq.setCell ⟨w.heap.size + 1 + 1 + 1, 1, none⟩ (.slice aq lq cq)) := Fr.only ho2 (by have := HSZ.out; omega)
          replace HJ1 := Lib.hid (fun w'' (hf : Fr w4.heap.size (wq.setCell ⟨w.heap.size + 1 + 1 + 1, 1, none⟩ (.slice aq lq cq)) w'') hb => HJ1.out w'' (hfo.trans hf) hb)
          replace HR1 := Lib.hid (fun w'' (hf : Fr w4.heap.size (wq.setCell ⟨w.heap.size + 1 + 1 + 1, 1, none⟩ (.slice aq lq cq)) w'') (_ : RA w'') => HR1.out w'' (hfo.trans hf))
          replace HW1 := Lib.hid (fun w'' (hf : Fr w4.heap.size (wq.setCell ⟨w.heap.size + 1 + 1 + 1, 1, none⟩ (.slice aq lq cq)) w'') hb => HW1.out w'' (hfo.trans hf) hb)
          replace HG := Lib.hid (Nat.le_trans HG.out ho2.size)
          clear hs2 ho2 hfo
          refine wpAnyH_ready (rs := [9]) (by kernel_rfl) (by simp) ?_
          refine stepH rfl (fun K hK => ?_) AllReadyH.nil
          go_simp
          refine hK.out _ _ (hS) (fun _ => ?_)
          clear hK K
          (try simp only [Act.put, List.setIfInBounds_toArray, List.set_cons_zero, List.set_cons_succ])
          refine wpAnyH_done (by kernel_rfl) ?_ _
          generalize (wq.setCell ⟨w.heap.size + 1 + 1 + 1, 1, none⟩ (.slice aq lq cq)) = wz at hS HS HA HZ HJ1 HR1 HW1 HG ⊢
          have HB := Lib.hid hS.2
          have HBb := Lib.hid hS.1
          clear s0 s1 s2 s3 s4 s5 s6 s7 s8 f0 f1 f2 f3 f4 f5 f6 f7 f8 hs1 hS
          go_wp2
          go_roundw
          case rel => exact ⟨j + 1, _, _, _, by omega, by go_num, HB, HG, HA, HBb, HZ, HS, HJ1, HR1, HW1⟩
          case measure => simp [intOf]; omega
        · have hq : ¬ ((j : Int) < (R1'.length : Int)) := by omega
          obtain rfl : j = R1'.length := by omega
          obtain ⟨wo, rfl⟩ : ∃ wo, wo = wr := ⟨wr, rfl⟩
          clear b0 b1 b2 b3 b4 b5 b6 b7 b8 hj hlt
          obtain ⟨⟨b0, b1, b2, b3, b4, b5, b6, b7, b8⟩, _⟩ := row9_at HBb.out
          go_wp2
          clear b0 b1 b2 b3 b4 b5 b6 b7 b8 hq
          go_loopw [8] (fun i wr => ∃ (j : Nat) (vJ vR vW : Value), j ≤ W'.length ∧ i = .int .i64 j ∧ Hid (Below w.heap.size w wr) ∧ Hid (w4.heap.size ≤ wr.heap.size) ∧ Hid (wr.heap[w.heap.size]? = some (.cells (s9 (.slice ax lx cx) (.slice ay ly cy) (.slice az lz cz) k c f v a n) 81 (0, 0))) ∧ Hid (wr.heap[w.heap.size + 1]? = some (.cells (s9 (.slice ax' J'.length cx') (.slice ay' R1'.length cy') (.slice az' W'.length cz') k' c' f' v' a' n') 81 (0, 0))) ∧ Hid (wr.heap[w.heap.size + 1 + 1]? = some (.cells (s9 (.slice none 0 0) (.slice none 0 0) (.slice none 0 0) 0 0 0 0 0 0) 81 (0, 0))) ∧ Hid (wr.heap[w.heap.size + 1 + 1 + 1]? = some (.cells (s9 vJ vR vW k c f v a n) 81 (0, 0))) ∧ Hid (∀ w'', Fr w4.heap.size wr w'' → RA w'' → RdI w'' vJ (accI J J' J'.length)) ∧ Hid (∀ w'', Fr w4.heap.size wr w'' → RA w'' → RdI w'' vR (accI R1 R1' R1'.length)) ∧ Hid (∀ w'', Fr w4.heap.size wr w'' → RA w'' → RdW w'' vW (accW W W' j))) (fun i _ => W'.length - (intOf i).toNat)
          case atStart => exact ⟨0, _, _, _, Nat.zero_le _, rfl, HB, HG, HA, HBb, HZ, HS, HJ1, HR1, HW1⟩
          case round =>
            clear HB HA HBb HZ HS HG HJ1 HR1 HW1
            obtain ⟨j, vJ, vR, vW, hj, rfl, HB, HG, HA, HBb, HZ, HS, HJ1, HR1, HW1⟩ := hrel
            obtain ⟨aJ, lJ, cJ, hvJ⟩ : ∃ a l c, vJ = .slice a l c := by obtain ⟨a, c, h, _⟩ := (HJ1.out _ (Fr.refl _ _) (HRA1.out _ HB.out)).shape; exact ⟨a, _, c, h⟩
            obtain ⟨aR, lR, cR, hvR⟩ : ∃ a l c, vR = .slice a l c := by obtain ⟨a, c, h, _⟩ := (HR1.out _ (Fr.refl _ _) (HRA1.out _ HB.out)).shape; exact ⟨a, _, c, h⟩
            obtain ⟨aW, lW, cW, hvW⟩ : ∃ a l c, vW = .slice a l c := by obtain ⟨a, c, h, _⟩ := (HW1.out _ (Fr.refl _ _) (HRA1.out _ HB.out)).shape; exact ⟨a, _, c, h⟩
            subst hvJ hvR hvW
            obtain ⟨⟨b0, b1, b2, b3, b4, b5, b6, b7, b8⟩, _⟩ := row9_at HBb.out
            by_cases hlt : j < W'.length
            · have hq : (j : Int) < (W'.length : Int) := by omega
              have hjb : (j : Int) ≤ 1000000 := by have := HLL.out; omega
              obtain ⟨⟨q1, q2, q3, q4, q5⟩, hx⟩ : ∃ m : Ent, W'[j]? = some m := ⟨_, List.getElem?_eq_getElem hlt⟩
              have HSC := Lib.hid (accW_succ W W' j _ hx)
              have HAC := Lib.hid (HWt.out j)
              obtain ⟨o1, oo, hi, hbb, d0, d1, d2, d3, d4⟩ := atW (HX.out.2.2.below HB.out) j q1 q2 q3 q4 q5 hx
              have HD := Lib.hid (show Below w.heap.size w wr ∧ wr.cell? ⟨o1, oo, none⟩ = some (.int .i64 q1) ∧ wr.cell? ⟨o1, oo + 1, none⟩ = some (.int .i64 q2) ∧ wr.cell? ⟨o1, oo + 2, none⟩ = some (.int .i64 q3) ∧ wr.cell? ⟨o1, oo + 3, none⟩ = some (.int .i64 q4) ∧ wr.cell? ⟨o1, oo + 4, none⟩ = some (.int .i64 q5) from ⟨HB.out, d0, d1, d2, d3, d4⟩)
              have HGE := Lib.hid hx
              have HHI := Lib.hid hi
              clear hx hi hbb d0 d1 d2 d3 d4 HD
              go_wp2
              refine wp_region_held_drew (S := fun w' => w'.heap[w.heap.size + 1]? = some (.cells (s9 (.slice ax' J'.length cx') (.slice ay' R1'.length cy') (.slice az' W'.length cz') k' c' f' v' a' n') 81 (0, 0)) ∧ Below w.heap.size w w') (by kernel_rfl) ⟨HBb.out, HB.out.drew⟩ (fun _ => ?_)
              have hS : wr.drew.heap[w.heap.size + 1]? = some (.cells (s9 (.slice ax' J'.length cx') (.slice ay' R1'.length cy') (.slice az' W'.length cz') k' c' f' v' a' n') 81 (0, 0)) ∧ Below w.heap.size w wr.drew := ⟨HBb.out, HB.out.drew⟩
              replace HG := Lib.hid (show w4.heap.size ≤ wr.drew.heap.size from HG.out)
              replace HA := Lib.hid (show wr.drew.heap[w.heap.size]? = some (.cells (s9 (.slice ax lx cx) (.slice ay ly cy) (.slice az lz cz) k c f v a n) 81 (0, 0)) from HA.out)
              replace HZ := Lib.hid (show wr.drew.heap[w.heap.size + 1 + 1]? = some (.cells (s9 (.slice none 0 0) (.slice none 0 0) (.slice none 0 0) 0 0 0 0 0 0) 81 (0, 0)) from HZ.out)
              replace HS := Lib.hid (show wr.drew.heap[w.heap.size + 1 + 1 + 1]? = some (.cells (s9 (.slice aJ lJ cJ) (.slice aR lR cR) (.slice aW lW cW) k c f v a n) 81 (0, 0)) from HS.out)
              replace HJ1 := Lib.hid (show ∀ w'', Fr w4.heap.size wr.drew w'' → RA w'' → RdI w'' (.slice aJ lJ cJ) (accI J J' J'.length) from fun w'' hf hb => HJ1.out w'' ((Fr.of (B := w4.heap.size) (Below.refl _ wr).drew).trans hf) hb)
              replace HR1 := Lib.hid (show ∀ w'', Fr w4.heap.size wr.drew w'' → RA w'' → RdI w'' (.slice aR lR cR) (accI R1 R1' R1'.length) from fun w'' hf hb => HR1.out w'' ((Fr.of (B := w4.heap.size) (Below.refl _ wr).drew).trans hf) hb)
              replace HW1 := Lib.hid (show ∀ w'', Fr w4.heap.size wr.drew w'' → RA w'' → RdW w'' (.slice aW lW cW) (accW W W' j) from fun w'' hf hb => HW1.out w'' ((Fr.of (B := w4.heap.size) (Below.refl _ wr).drew).trans hf) hb)
              clear HB HBb b0 b1 b2 b3 b4 b5 b6 b7 b8
              generalize wr.drew = wa at hS HG HA HZ HS HJ1 HR1 HW1 ⊢
              refine takeH (i := 0) (v := ?_) rfl (by kernel_rfl) (by kernel_rfl) (by kernel_rfl) (fun _ _ _ h => h) (Or.inl ⟨by rfl, ?_⟩) (by assumption) ?_
              rotate_left
              · (intro w hSw; (try dsimp only at hSw); go_simp; first | done | with_reducible rfl)
              (try simp only [Act.put, List.setIfInBounds_toArray, List.set_cons_zero, List.set_cons_succ])
              refine takeH (i := 2) (v := ?_) rfl (by kernel_rfl) (by kernel_rfl) (by kernel_rfl) (fun _ _ _ h => h) (Or.inl ⟨by rfl, ?_⟩) (by assumption) ?_
              rotate_left
              · (intro w hSw; (try dsimp only at hSw); go_simp; first | done | with_reducible rfl)
              (try simp only [Act.put, List.setIfInBounds_toArray, List.set_cons_zero, List.set_cons_succ])
              refine takeH (i := 3) (v := ?_) rfl (by kernel_rfl) (by kernel_rfl) (by kernel_rfl) (fun _ _ _ h => h) (Or.inl ⟨by rfl, ?_⟩) (by assumption) ?_
              rotate_left
              · (intro w hSw; (try dsimp only at hSw); obtain ⟨⟨b0, b1, b2, b3, b4, b5, b6, b7, b8⟩, _⟩ := row9_at hSw.1; go_simp; first | done | with_reducible rfl)
              (try simp only [Act.put, List.setIfInBounds_toArray, List.set_cons_zero, List.set_cons_succ])
              refine takeH (i := 4) (v := ?_) rfl (by kernel_rfl) (by kernel_rfl) (by kernel_rfl) (fun _ _ _ h => h) (Or.inl ⟨by rfl, ?_⟩) (by assumption) ?_
              rotate_left
              · (intro w hSw; (try dsimp only at hSw); go_simp; first | done | with_reducible rfl)
              (try simp only [Act.put, List.setIfInBounds_toArray, List.set_cons_zero, List.set_cons_succ])
              refine takeH (i := 5) (v := ?_) rfl (by kernel_rfl) (by kernel_rfl) (by kernel_rfl) (fun _ _ _ h => h) (Or.inl ⟨by rfl, ?_⟩) (by assumption) ?_
              rotate_left
              · (intro w hSw; (try dsimp only at hSw); have hi := HHI.out w; go_simp; first | done | with_reducible rfl)
              (try simp only [Act.put, List.setIfInBounds_toArray, List.set_cons_zero, List.set_cons_succ])
              refine takeH (i := 6) (v := ?_) rfl (by kernel_rfl) (by kernel_rfl) (by kernel_rfl) (fun _ _ _ h => h) (Or.inl ⟨by rfl, ?_⟩) (by assumption) ?_
              rotate_left
              · (intro w hSw; (try dsimp only at hSw); obtain ⟨o1', oo', hi', _, d0, d1, d2, d3, d4⟩ := atW (HX.out.2.2.below hSw.2) j q1 q2 q3 q4 q5 HGE.out; have he := (HHI.out w).symm.trans (hi' w); injection he with he; injection he with he; injection he with he; injection he with he1 he2; subst he1; subst he2; go_simp; first | done | with_reducible rfl)
              (try simp only [Act.put, List.setIfInBounds_toArray, List.set_cons_zero, List.set_cons_succ])
              refine wpAnyH_ready (rs := [1]) (by kernel_rfl) (by simp) ?_
              refine stepH rfl (fun K hK => ?_) AllReadyH.nil
              obtain ⟨⟨s0, s1, s2, s3, s4, s5, s6, s7, s8⟩, _⟩ := row9_at HS.out
              go_simp
              refine hK.out _ _ (hS) (fun _ => ?_)
              clear hK K
              (try simp only [Act.put, List.setIfInBounds_toArray, List.set_cons_zero, List.set_cons_succ])
              clear s0 s1 s2 s3 s4 s5 s6 s7 s8
              refine wpAnyH_ready (rs := [7]) (by kernel_rfl) (by simp) ?_
              refine stepH rfl (fun K hK => ?_) AllReadyH.nil
              go_simp
              refine (oWeigh _ _ q1 q2 q3 q4 q5 wa (HW1.out wa (Fr.refl _ _) (HRA1.out _ hS.2)) HAC.out.1 HAC.out.2).mono ?_
              rintro e wq ⟨vq, rfl, hrq, hbq⟩
              obtain ⟨aq, lq, cq, hvq⟩ := hrq.shape
              subst hvq
              replace hS : wq.heap[w.heap.size + 1]? = some (.cells (s9 (.slice ax' J'.length cx') (.slice ay' R1'.length cy') (.slice az' W'.length cz') k' c' f' v' a' n') 81 (0, 0)) ∧ Below w.heap.size w wq := ⟨below_block hS.1 hbq, bnext hS.2 hbq⟩
              have hs1 := below_block HS.out hbq
              replace HA := Lib.hid (below_block HA.out hbq)
              replace HZ := Lib.hid (below_block HZ.out hbq)
              replace HJ1 := Lib.hid (fun w'' (hf : Fr w4.heap.size wq w'') hb => HJ1.out w'' ((Fr.of hbq).trans hf) hb)
              replace HR1 := Lib.hid (fun w'' (hf : Fr w4.heap.size wq w'') hb => HR1.out w'' ((Fr.of hbq).trans hf) hb)
              replace HW1 := Lib.hid (hrq.mono HG.out)
              rw [← HSC.out] at HW1
              replace HG := Lib.hid (Nat.le_trans HG.out hbq.size)
              clear hrq hbq HS
              go_wp2_with fail
              refine hK.out _ _ (hS) (fun _ => ?_)
              clear hK K
              (try simp only [Act.put, List.setIfInBounds_toArray, List.set_cons_zero, List.set_cons_succ])
              refine takeH (i := 8) (v := ?_) rfl (by kernel_rfl) (by kernel_rfl) (by kernel_rfl) (fun _ _ _ h => h) (Or.inl ⟨by rfl, ?_⟩) (by assumption) ?_
              rotate_left
              · (intro w hSw; (try dsimp only at hSw); go_simp; first | done | with_reducible rfl)
              (try simp only [Act.put, List.setIfInBounds_toArray, List.set_cons_zero, List.set_cons_succ])
              obtain ⟨⟨s0, s1, s2, s3, s4, s5, s6, s7, s8⟩, f0, f1, f2, f3, f4, f5, f6, f7, f8⟩ := row9_at hs1
              have hs2 : (wq.setCell ⟨w.heap.size + 1 + 1 + 1, 2, none⟩ (.slice aq lq cq)).heap[w.heap.size + 1 + 1 + 1]? = some (.cells (s9 (.slice aJ lJ cJ) (.slice aR lR cR) (.slice aq lq cq) k c f v a n) 81 (0, 0)) := heap_setCell_same wq _ 2 _ _ _ hs1
              have ho2 : Only (w.heap.size + 1 + 1 + 1) wq (wq.setCell ⟨w.heap.size + 1 + 1 + 1, 2, none⟩ (.slice aq lq cq)) := Only.set 2 _
              replace hS : (wq.setCell ⟨w.heap.size + 1 + 1 + 1, 2, none⟩ (.slice aq lq cq)).heap[w.heap.size + 1]? = some (.cells (s9 (.slice ax' J'.length cx') (.slice ay' R1'.length cy') (.slice az' W'.length cz') k' c' f' v' a' n') 81 (0, 0)) ∧ Below w.heap.size w (wq.setCell ⟨w.heap.size + 1 + 1 + 1, 2, none⟩ (.slice aq lq cq)) := ⟨ho2.at hS.1 (by omega), hS.2.trans (ho2.below (by omega) hS.2.size)⟩
              replace HA := Lib.hid (ho2.at HA.out (by omega))
              replace HZ := Lib.hid (ho2.at HZ.out (by omega))
              have HS := Lib.hid hs2
              have hfo : Fr w4.heap.size wq (wq.setCell ⟨w.heap.size + 1 + 1 + 1, 2, none⟩ (.slice aq lq cq)) := Fr.only ho2 (by have := HSZ.out; omega)
              replace HJ1 := Lib.hid (fun w'' (hf : Fr w4.heap.size (wq.setCell ⟨w.heap.size + 1 + 1 + 1, 2, none⟩ (.slice aq lq cq)) w'') hb => HJ1.out w'' (hfo.trans hf) hb)
              replace HR1 := Lib.hid (fun w'' (hf : Fr w4.heap.size (wq.setCell ⟨w.heap.size + 1 + 1 + 1, 2, none⟩ (.slice aq lq cq)) w'') hb => HR1.out w'' (hfo.trans hf) hb)
              replace HW1 := Lib.hid (fun w'' (hf : Fr w4.heap.size (wq.setCell ⟨w.heap.size + 1 + 1 + 1, 2, none⟩ (.slice aq lq cq)) w'') (_ : RA w'') => HW1.out w'' (hfo.trans hf))
              replace HG := Lib.hid (Nat.le_trans HG.out ho2.size)
              clear hs2 ho2 hfo
              refine wpAnyH_ready (rs := [9]) (by kernel_rfl) (by simp) ?_
              refine stepH rfl (fun K hK => ?_) AllReadyH.nil
              go_simp
              refine hK.out _ _ (hS) (fun _ => ?_)
              clear hK K
              (try simp only [Act.put, List.setIfInBounds_toArray, List.set_cons_zero, List.set_cons_succ])
              refine wpAnyH_done (by kernel_rfl) ?_ _
              generalize (wq.setCell ⟨w.heap.size + 1 + 1 + 1, 2, none⟩ (.slice aq lq cq)) = wz at hS HS HA HZ HJ1 HR1 HW1 HG ⊢
              have HB := Lib.hid hS.2
              have HBb := Lib.hid hS.1
              clear s0 s1 s2 s3 s4 s5 s6 s7 s8 f0 f1 f2 f3 f4 f5 f6 f7 f8 hs1 hS
              go_wp2
              go_roundw
              case rel => exact ⟨j + 1, _, _, _, by omega, by go_num, HB, HG, HA, HBb, HZ, HS, HJ1, HR1, HW1⟩
              case measure => simp [intOf]; omega
            · have hq : ¬ ((j : Int) < (W'.length : Int)) := by omega
              obtain rfl : j = W'.length := by omega
              obtain ⟨wo, rfl⟩ : ∃ wo, wo = wr := ⟨wr, rfl⟩
              clear b0 b1 b2 b3 b4 b5 b6 b7 b8 hj hlt
              obtain ⟨⟨b0, b1, b2, b3, b4, b5, b6, b7, b8⟩, _⟩ := row9_at HBb.out
              have hneq := fun w => neq_rule k' c' f' 0 0 0 w
              have heq := fun w => eql_rule k c f 0 0 0 w
              have hf := HFIN.out
              have hl := fun w => rLater 0 0 v' a' n' 0 0 v a n w
              obtain ⟨zb, hzb⟩ : ∃ z, z = decide (k' = 0 ∧ c' = 0 ∧ f' = 0) := ⟨_, rfl⟩
              obtain ⟨za, hza⟩ : ∃ z, z = decide (k = 0 ∧ c = 0 ∧ f = 0) := ⟨_, rfl⟩
              obtain ⟨af, haf⟩ : ∃ z, z = MM.aft (v', a', n') (v, a, n) := ⟨_, rfl⟩
              rw [← hzb] at hneq hf
              rw [← hza] at heq hf
              rw [← haf] at hf hl
              have HF2 := Lib.hid hf
              have HL := Lib.hid hl
              clear hzb hza haf hf hl HFIN
              -- the two entries' boxes
              obtain ⟨X, hX⟩ : ∃ X, X = wo.heap.size := ⟨_, rfl⟩
              obtain ⟨wm, w5, hwm, hw5, hbm, hb5, hx5, hy5⟩ : ∃ wm w5, wo.alloc (.cells #[.int .i64 0, .int .i64 0, .int .i64 v, .int .i64 a, .int .i64 n] 135) = wm ∧ wm.alloc (.cells #[.int .i64 0, .int .i64 0, .int .i64 v', .int .i64 a', .int .i64 n'] 135) = w5 ∧ Below wo.heap.size wo wm ∧ Below wo.heap.size wo w5 ∧
                  w5.heap[X]? = some (.cells #[.int .i64 0, .int .i64 0, .int .i64 v, .int .i64 a, .int .i64 n] 135 (0, 0)) ∧ w5.heap[wm.heap.size]? = some (.cells #[.int .i64 0, .int .i64 0, .int .i64 v', .int .i64 a', .int .i64 n'] 135 (0, 0)) := by
                have b1 := below_fresh wo (.cells #[.int .i64 0, .int .i64 0, .int .i64 v, .int .i64 a, .int .i64 n] 135)
                have h1 := heap_alloc_new wo (.cells #[.int .i64 0, .int .i64 0, .int .i64 v, .int .i64 a, .int .i64 n] 135)
                have b2 := below_fresh (wo.alloc (.cells #[.int .i64 0, .int .i64 0, .int .i64 v, .int .i64 a, .int .i64 n] 135)) (.cells #[.int .i64 0, .int .i64 0, .int .i64 v', .int .i64 a', .int .i64 n'] 135)
                have h2 := heap_alloc_new (wo.alloc (.cells #[.int .i64 0, .int .i64 0, .int .i64 v, .int .i64 a, .int .i64 n] 135)) (.cells #[.int .i64 0, .int .i64 0, .int .i64 v', .int .i64 a', .int .i64 n'] 135)
                rw [← hX] at h1
                exact ⟨_, _, rfl, rfl, b1, bnext b1 b2, below_block h1 b2, h2⟩
              have HX5 := Lib.hid hx5
              have HY5 := Lib.hid hy5
              have HXL := Lib.hid (show w.heap.size + 1 + 1 + 1 < X by have := (Array.getElem?_eq_some_iff.1 HS.out).1; omega)
              have HW5 := Lib.hid hw5
              have HWM := Lib.hid hwm
              have HBm := Lib.hid (below_block HBb.out hbm)
              have HXE := Lib.hid hX
              have HA5 := Lib.hid (below_block HA.out hb5)
              have HBb5 := Lib.hid (below_block HBb.out hb5)
              have HZ5 := Lib.hid (below_block HZ.out hb5)
              have HS5 := Lib.hid (below_block HS.out hb5)
              have HB5 := Lib.hid (bnext HB.out hb5)
              have HG5 := Lib.hid (Nat.le_trans HG.out hb5.size)
              have HJ5 := Lib.hid (fun w'' (hf : Fr w4.heap.size w5 w'') hb => HJ1.out w'' ((Fr.of hb5).trans hf) hb)
              have HR5 := Lib.hid (fun w'' (hf : Fr w4.heap.size w5 w'') hb => HR1.out w'' ((Fr.of hb5).trans hf) hb)
              have HW5' := Lib.hid (fun w'' (hf : Fr w4.heap.size w5 w'') hb => HW1.out w'' ((Fr.of hb5).trans hf) hb)
              obtain ⟨⟨a0, a1, a2, a3, a4, a5, a6, a7, a8⟩, _⟩ := row9_at HA.out
              clear hw5 hb5 hx5 hy5 hX hwm hbm
              go_upto_region 15 with fail
              rw [HWM.out]
              clear b0 b1 b2 b3 b4 b5 b6 b7 b8 a0 a1 a2 a3 a4 a5 a6 a7 a8 hq
              obtain ⟨⟨b0, b1, b2, b3, b4, b5, b6, b7, b8⟩, _⟩ := row9_at HBm.out
              go_upto_region 16 with fail
              rw [HW5.out, ← HXE.out]
              clear HB HA HBb HZ HS HG HJ1 HR1 HW1 HW5 HXE HWM HBm
              clear b0 b1 b2 b3 b4 b5 b6 b7 b8
              obtain ⟨⟨a0, a1, a2, a3, a4, a5, a6, a7, a8⟩, _⟩ := row9_at HA5.out
              obtain ⟨⟨b0, b1, b2, b3, b4, b5, b6, b7, b8⟩, _⟩ := row9_at HBb5.out
              obtain ⟨⟨s0, s1, s2, s3, s4, s5, s6, s7, s8⟩, f0, f1, f2, f3, f4, f5, f6, f7, f8⟩ := row9_at HS5.out
              obtain ⟨⟨z0, z1, z2, z3, z4, z5, z6, z7, z8⟩, y0, y1, y2, y3, y4, y5, y6, y7, y8⟩ := row9_at HZ5.out
              have hne : ¬ (w.heap.size + 1 = w.heap.size + 1 + 1 + 1) := by omega
              have hne2 : ¬ (w.heap.size + 1 + 1 = w.heap.size + 1 + 1 + 1) := by omega
              cases zb
              · cases za
                · obtain ⟨⟨x0, x1, x2, x3, x4⟩, _⟩ := row5_at HX5.out
                  obtain ⟨⟨g0, g1, g2, g3, g4⟩, _⟩ := row5_at HY5.out
                  go_wp2_with fail
                  refine (HL.out w5).mono ?_
                  rintro e w6 ⟨rfl, hb6⟩
                  replace HBb5 := Lib.hid (below_block HBb5.out hb6)
                  replace HZ5 := Lib.hid (below_block HZ5.out hb6)
                  replace HS5 := Lib.hid (below_block HS5.out hb6)
                  replace HB5 := Lib.hid (bnext HB5.out hb6)
                  replace HJ5 := Lib.hid (fun w'' (hf : Fr w4.heap.size w6 w'') hb => HJ5.out w'' ((Fr.of hb6).trans hf) hb)
                  replace HR5 := Lib.hid (fun w'' (hf : Fr w4.heap.size w6 w'') hb => HR5.out w'' ((Fr.of hb6).trans hf) hb)
                  replace HW5' := Lib.hid (fun w'' (hf : Fr w4.heap.size w6 w'') hb => HW5'.out w'' ((Fr.of hb6).trans hf) hb)
                  clear hb6 a0 a1 a2 a3 a4 a5 a6 a7 a8 b0 b1 b2 b3 b4 b5 b6 b7 b8 s0 s1 s2 s3 s4 s5 s6 s7 s8 f0 f1 f2 f3 f4 f5 f6 f7 f8 z0 z1 z2 z3 z4 z5 z6 z7 z8 y0 y1 y2 y3 y4 y5 y6 y7 y8 x0 x1 x2 x3 x4 g0 g1 g2 g3 g4 HX5 HY5 HA5
                  obtain ⟨⟨b0, b1, b2, b3, b4, b5, b6, b7, b8⟩, _⟩ := row9_at HBb5.out
                  obtain ⟨⟨s0, s1, s2, s3, s4, s5, s6, s7, s8⟩, f0, f1, f2, f3, f4, f5, f6, f7, f8⟩ := row9_at HS5.out
                  obtain ⟨⟨z0, z1, z2, z3, z4, z5, z6, z7, z8⟩, y0, y1, y2, y3, y4, y5, y6, y7, y8⟩ := row9_at HZ5.out
                  cases af
                  · go_upto_region 21 with fail
                    clear hneq heq hne hne2 b0 b1 b2 b3 b4 b5 b6 b7 b8 s0 s1 s2 s3 s4 s5 s6 s7 s8 f0 f1 f2 f3 f4 f5 f6 f7 f8 z0 z1 z2 z3 z4 z5 z6 z7 z8 y0 y1 y2 y3 y4 y5 y6 y7 y8
                    have HS6 := HS5
                    have HZ6 := HZ5
                    have HB6 := HB5
                    have HJ6 := HJ5
                    have HR6 := HR5
                    have HW6 := HW5'
                    clear HS5 HZ5 HB5 HJ5 HR5 HW5' HBb5 HL
                    obtain ⟨⟨s0, s1, s2, s3, s4, s5, s6, s7, s8⟩, _⟩ := row9_at HS6.out
                    obtain ⟨⟨z0, z1, z2, z3, z4, z5, z6, z7, z8⟩, y0, y1, y2, y3, y4, y5, y6, y7, y8⟩ := row9_at HZ6.out
                    go_wp2
                    have hput := row9_put HZ6.out (.slice aJ lJ cJ) (.slice aR lR cR) (.slice aW lW cW) (.int .i64 k) (.int .i64 c) (.int .i64 f) (.int .i64 v) (.int .i64 a) (.int .i64 n) w.heap.size (by omega)
                    have hon := onlyc9 (w := w6) (g := w.heap.size + 1 + 1) (.slice aJ lJ cJ) (.slice aR lR cR) (.slice aW lW cW) (.int .i64 k) (.int .i64 c) (.int .i64 f) (.int .i64 v) (.int .i64 a) (.int .i64 n)
                    refine rjoin_ret rfl hput.1 rfl ⟨_, rfl, ?_, HB6.out.trans hput.2⟩
                    rw [HF2.out false rfl]
                    intro w'' hf hra
                    have hra2 := HRA3.out _ hra
                    have hlast := (Fr.only (B := w4.heap.size) hon (by have := HSZ.out; omega)).trans (hf.mono (by have := HSZ.out; omega))
                    exact ⟨_, _, _, rfl, HJ6.out _ hlast hra2, HR6.out _ hlast hra2, HW6.out _ hlast hra2⟩
                  · go_upto_region 21 with fail
                    clear hneq heq hne hne2 b0 b1 b2 b3 b4 b5 b6 b7 b8 s0 s1 s2 s3 s4 s5 s6 s7 s8 f0 f1 f2 f3 f4 f5 f6 f7 f8 z0 z1 z2 z3 z4 z5 z6 z7 z8 y0 y1 y2 y3 y4 y5 y6 y7 y8
                    have hs0 : (w6.setCell ⟨w.heap.size + 1 + 1 + 1, 3, none⟩ (.int .i64 k')).heap[w.heap.size + 1 + 1 + 1]? = some (.cells #[.slice aJ lJ cJ, .slice aR lR cR, .slice aW lW cW, .int .i64 k', .int .i64 c, .int .i64 f, .int .i64 v, .int .i64 a, .int .i64 n] 81 (0, 0)) := heap_setCell_same _ (w.heap.size + 1 + 1 + 1) 3 _ _ _ HS5.out
                    have hs1 : ((w6.setCell ⟨w.heap.size + 1 + 1 + 1, 3, none⟩ (.int .i64 k')).setCell ⟨w.heap.size + 1 + 1 + 1, 4, none⟩ (.int .i64 c')).heap[w.heap.size + 1 + 1 + 1]? = some (.cells #[.slice aJ lJ cJ, .slice aR lR cR, .slice aW lW cW, .int .i64 k', .int .i64 c', .int .i64 f, .int .i64 v, .int .i64 a, .int .i64 n] 81 (0, 0)) := heap_setCell_same _ (w.heap.size + 1 + 1 + 1) 4 _ _ _ hs0
                    have hs2 : (((w6.setCell ⟨w.heap.size + 1 + 1 + 1, 3, none⟩ (.int .i64 k')).setCell ⟨w.heap.size + 1 + 1 + 1, 4, none⟩ (.int .i64 c')).setCell ⟨w.heap.size + 1 + 1 + 1, 5, none⟩ (.int .i64 f')).heap[w.heap.size + 1 + 1 + 1]? = some (.cells #[.slice aJ lJ cJ, .slice aR lR cR, .slice aW lW cW, .int .i64 k', .int .i64 c', .int .i64 f', .int .i64 v, .int .i64 a, .int .i64 n] 81 (0, 0)) := heap_setCell_same _ (w.heap.size + 1 + 1 + 1) 5 _ _ _ hs1
                    have hs3 : ((((w6.setCell ⟨w.heap.size + 1 + 1 + 1, 3, none⟩ (.int .i64 k')).setCell ⟨w.heap.size + 1 + 1 + 1, 4, none⟩ (.int .i64 c')).setCell ⟨w.heap.size + 1 + 1 + 1, 5, none⟩ (.int .i64 f')).setCell ⟨w.heap.size + 1 + 1 + 1, 6, none⟩ (.int .i64 v')).heap[w.heap.size + 1 + 1 + 1]? = some (.cells #[.slice aJ lJ cJ, .slice aR lR cR, .slice aW lW cW, .int .i64 k', .int .i64 c', .int .i64 f', .int .i64 v', .int .i64 a, .int .i64 n] 81 (0, 0)) := heap_setCell_same _ (w.heap.size + 1 + 1 + 1) 6 _ _ _ hs2
                    have hs4 : (((((w6.setCell ⟨w.heap.size + 1 + 1 + 1, 3, none⟩ (.int .i64 k')).setCell ⟨w.heap.size + 1 + 1 + 1, 4, none⟩ (.int .i64 c')).setCell ⟨w.heap.size + 1 + 1 + 1, 5, none⟩ (.int .i64 f')).setCell ⟨w.heap.size + 1 + 1 + 1, 6, none⟩ (.int .i64 v')).setCell ⟨w.heap.size + 1 + 1 + 1, 7, none⟩ (.int .i64 a')).heap[w.heap.size + 1 + 1 + 1]? = some (.cells #[.slice aJ lJ cJ, .slice aR lR cR, .slice aW lW cW, .int .i64 k', .int .i64 c', .int .i64 f', .int .i64 v', .int .i64 a', .int .i64 n] 81 (0, 0)) := heap_setCell_same _ (w.heap.size + 1 + 1 + 1) 7 _ _ _ hs3
                    have hs5 : ((((((w6.setCell ⟨w.heap.size + 1 + 1 + 1, 3, none⟩ (.int .i64 k')).setCell ⟨w.heap.size + 1 + 1 + 1, 4, none⟩ (.int .i64 c')).setCell ⟨w.heap.size + 1 + 1 + 1, 5, none⟩ (.int .i64 f')).setCell ⟨w.heap.size + 1 + 1 + 1, 6, none⟩ (.int .i64 v')).setCell ⟨w.heap.size + 1 + 1 + 1, 7, none⟩ (.int .i64 a')).setCell ⟨w.heap.size + 1 + 1 + 1, 8, none⟩ (.int .i64 n')).heap[w.heap.size + 1 + 1 + 1]? = some (.cells #[.slice aJ lJ cJ, .slice aR lR cR, .slice aW lW cW, .int .i64 k', .int .i64 c', .int .i64 f', .int .i64 v', .int .i64 a', .int .i64 n'] 81 (0, 0)) := heap_setCell_same _ (w.heap.size + 1 + 1 + 1) 8 _ _ _ hs4
                    have ho2 : Only (w.heap.size + 1 + 1 + 1) w6 ((((((w6.setCell ⟨w.heap.size + 1 + 1 + 1, 3, none⟩ (.int .i64 k')).setCell ⟨w.heap.size + 1 + 1 + 1, 4, none⟩ (.int .i64 c')).setCell ⟨w.heap.size + 1 + 1 + 1, 5, none⟩ (.int .i64 f')).setCell ⟨w.heap.size + 1 + 1 + 1, 6, none⟩ (.int .i64 v')).setCell ⟨w.heap.size + 1 + 1 + 1, 7, none⟩ (.int .i64 a')).setCell ⟨w.heap.size + 1 + 1 + 1, 8, none⟩ (.int .i64 n')) := (((((Only.set 3 _).trans (Only.set 4 _)).trans (Only.set 5 _)).trans (Only.set 6 _)).trans (Only.set 7 _)).trans (Only.set 8 _)
                    clear hs0 hs1 hs2 hs3 hs4
                    generalize ((((((w6.setCell ⟨w.heap.size + 1 + 1 + 1, 3, none⟩ (.int .i64 k')).setCell ⟨w.heap.size + 1 + 1 + 1, 4, none⟩ (.int .i64 c')).setCell ⟨w.heap.size + 1 + 1 + 1, 5, none⟩ (.int .i64 f')).setCell ⟨w.heap.size + 1 + 1 + 1, 6, none⟩ (.int .i64 v')).setCell ⟨w.heap.size + 1 + 1 + 1, 7, none⟩ (.int .i64 a')).setCell ⟨w.heap.size + 1 + 1 + 1, 8, none⟩ (.int .i64 n')) = wl at hs5 ho2 ⊢
                    have HS6 := Lib.hid hs5
                    have HZ6 := Lib.hid (ho2.at HZ5.out (by omega))
                    have HB6 := Lib.hid (HB5.out.trans (ho2.below (by omega) HB5.out.size))
                    have HJ6 := Lib.hid (fun w'' (hf : Fr w4.heap.size wl w'') hb => HJ5.out w'' ((Fr.only ho2 (by have := HSZ.out; omega)).trans hf) hb)
                    have HR6 := Lib.hid (fun w'' (hf : Fr w4.heap.size wl w'') hb => HR5.out w'' ((Fr.only ho2 (by have := HSZ.out; omega)).trans hf) hb)
                    have HW6 := Lib.hid (fun w'' (hf : Fr w4.heap.size wl w'') hb => HW5'.out w'' ((Fr.only ho2 (by have := HSZ.out; omega)).trans hf) hb)
                    clear hs5 ho2
                    clear HS5 HZ5 HB5 HJ5 HR5 HW5' HBb5 HL
                    obtain ⟨⟨s0, s1, s2, s3, s4, s5, s6, s7, s8⟩, _⟩ := row9_at HS6.out
                    obtain ⟨⟨z0, z1, z2, z3, z4, z5, z6, z7, z8⟩, y0, y1, y2, y3, y4, y5, y6, y7, y8⟩ := row9_at HZ6.out
                    go_wp2
                    have hput := row9_put HZ6.out (.slice aJ lJ cJ) (.slice aR lR cR) (.slice aW lW cW) (.int .i64 k') (.int .i64 c') (.int .i64 f') (.int .i64 v') (.int .i64 a') (.int .i64 n') w.heap.size (by omega)
                    have hon := onlyc9 (w := wl) (g := w.heap.size + 1 + 1) (.slice aJ lJ cJ) (.slice aR lR cR) (.slice aW lW cW) (.int .i64 k') (.int .i64 c') (.int .i64 f') (.int .i64 v') (.int .i64 a') (.int .i64 n')
                    refine rjoin_ret rfl hput.1 rfl ⟨_, rfl, ?_, HB6.out.trans hput.2⟩
                    rw [HF2.out true rfl]
                    intro w'' hf hra
                    have hra2 := HRA3.out _ hra
                    have hlast := (Fr.only (B := w4.heap.size) hon (by have := HSZ.out; omega)).trans (hf.mono (by have := HSZ.out; omega))
                    exact ⟨_, _, _, rfl, HJ6.out _ hlast hra2, HR6.out _ hlast hra2, HW6.out _ hlast hra2⟩
                · go_upto_region 21 with fail
                  clear hneq heq hne hne2 b0 b1 b2 b3 b4 b5 b6 b7 b8 s0 s1 s2 s3 s4 s5 s6 s7 s8 f0 f1 f2 f3 f4 f5 f6 f7 f8 z0 z1 z2 z3 z4 z5 z6 z7 z8 y0 y1 y2 y3 y4 y5 y6 y7 y8 a0 a1 a2 a3 a4 a5 a6 a7 a8
                  have hs0 : (w5.setCell ⟨w.heap.size + 1 + 1 + 1, 3, none⟩ (.int .i64 k')).heap[w.heap.size + 1 + 1 + 1]? = some (.cells #[.slice aJ lJ cJ, .slice aR lR cR, .slice aW lW cW, .int .i64 k', .int .i64 c, .int .i64 f, .int .i64 v, .int .i64 a, .int .i64 n] 81 (0, 0)) := heap_setCell_same _ (w.heap.size + 1 + 1 + 1) 3 _ _ _ HS5.out
                  have hs1 : ((w5.setCell ⟨w.heap.size + 1 + 1 + 1, 3, none⟩ (.int .i64 k')).setCell ⟨w.heap.size + 1 + 1 + 1, 4, none⟩ (.int .i64 c')).heap[w.heap.size + 1 + 1 + 1]? = some (.cells #[.slice aJ lJ cJ, .slice aR lR cR, .slice aW lW cW, .int .i64 k', .int .i64 c', .int .i64 f, .int .i64 v, .int .i64 a, .int .i64 n] 81 (0, 0)) := heap_setCell_same _ (w.heap.size + 1 + 1 + 1) 4 _ _ _ hs0
                  have hs2 : (((w5.setCell ⟨w.heap.size + 1 + 1 + 1, 3, none⟩ (.int .i64 k')).setCell ⟨w.heap.size + 1 + 1 + 1, 4, none⟩ (.int .i64 c')).setCell ⟨w.heap.size + 1 + 1 + 1, 5, none⟩ (.int .i64 f')).heap[w.heap.size + 1 + 1 + 1]? = some (.cells #[.slice aJ lJ cJ, .slice aR lR cR, .slice aW lW cW, .int .i64 k', .int .i64 c', .int .i64 f', .int .i64 v, .int .i64 a, .int .i64 n] 81 (0, 0)) := heap_setCell_same _ (w.heap.size + 1 + 1 + 1) 5 _ _ _ hs1
                  have hs3 : ((((w5.setCell ⟨w.heap.size + 1 + 1 + 1, 3, none⟩ (.int .i64 k')).setCell ⟨w.heap.size + 1 + 1 + 1, 4, none⟩ (.int .i64 c')).setCell ⟨w.heap.size + 1 + 1 + 1, 5, none⟩ (.int .i64 f')).setCell ⟨w.heap.size + 1 + 1 + 1, 6, none⟩ (.int .i64 v')).heap[w.heap.size + 1 + 1 + 1]? = some (.cells #[.slice aJ lJ cJ, .slice aR lR cR, .slice aW lW cW, .int .i64 k', .int .i64 c', .int .i64 f', .int .i64 v', .int .i64 a, .int .i64 n] 81 (0, 0)) := heap_setCell_same _ (w.heap.size + 1 + 1 + 1) 6 _ _ _ hs2
                  have hs4 : (((((w5.setCell ⟨w.heap.size + 1 + 1 + 1, 3, none⟩ (.int .i64 k')).setCell ⟨w.heap.size + 1 + 1 + 1, 4, none⟩ (.int .i64 c')).setCell ⟨w.heap.size + 1 + 1 + 1, 5, none⟩ (.int .i64 f')).setCell ⟨w.heap.size + 1 + 1 + 1, 6, none⟩ (.int .i64 v')).setCell ⟨w.heap.size + 1 + 1 + 1, 7, none⟩ (.int .i64 a')).heap[w.heap.size + 1 + 1 + 1]? = some (.cells #[.slice aJ lJ cJ, .slice aR lR cR, .slice aW lW cW, .int .i64 k', .int .i64 c', .int .i64 f', .int .i64 v', .int .i64 a', .int .i64 n] 81 (0, 0)) := heap_setCell_same _ (w.heap.size + 1 + 1 + 1) 7 _ _ _ hs3
                  have hs5 : ((((((w5.setCell ⟨w.heap.size + 1 + 1 + 1, 3, none⟩ (.int .i64 k')).setCell ⟨w.heap.size + 1 + 1 + 1, 4, none⟩ (.int .i64 c')).setCell ⟨w.heap.size + 1 + 1 + 1, 5, none⟩ (.int .i64 f')).setCell ⟨w.heap.size + 1 + 1 + 1, 6, none⟩ (.int .i64 v')).setCell ⟨w.heap.size + 1 + 1 + 1, 7, none⟩ (.int .i64 a')).setCell ⟨w.heap.size + 1 + 1 + 1, 8, none⟩ (.int .i64 n')).heap[w.heap.size + 1 + 1 + 1]? = some (.cells #[.slice aJ lJ cJ, .slice aR lR cR, .slice aW lW cW, .int .i64 k', .int .i64 c', .int .i64 f', .int .i64 v', .int .i64 a', .int .i64 n'] 81 (0, 0)) := heap_setCell_same _ (w.heap.size + 1 + 1 + 1) 8 _ _ _ hs4
                  have ho2 : Only (w.heap.size + 1 + 1 + 1) w5 ((((((w5.setCell ⟨w.heap.size + 1 + 1 + 1, 3, none⟩ (.int .i64 k')).setCell ⟨w.heap.size + 1 + 1 + 1, 4, none⟩ (.int .i64 c')).setCell ⟨w.heap.size + 1 + 1 + 1, 5, none⟩ (.int .i64 f')).setCell ⟨w.heap.size + 1 + 1 + 1, 6, none⟩ (.int .i64 v')).setCell ⟨w.heap.size + 1 + 1 + 1, 7, none⟩ (.int .i64 a')).setCell ⟨w.heap.size + 1 + 1 + 1, 8, none⟩ (.int .i64 n')) := (((((Only.set 3 _).trans (Only.set 4 _)).trans (Only.set 5 _)).trans (Only.set 6 _)).trans (Only.set 7 _)).trans (Only.set 8 _)
                  clear hs0 hs1 hs2 hs3 hs4
                  generalize ((((((w5.setCell ⟨w.heap.size + 1 + 1 + 1, 3, none⟩ (.int .i64 k')).setCell ⟨w.heap.size + 1 + 1 + 1, 4, none⟩ (.int .i64 c')).setCell ⟨w.heap.size + 1 + 1 + 1, 5, none⟩ (.int .i64 f')).setCell ⟨w.heap.size + 1 + 1 + 1, 6, none⟩ (.int .i64 v')).setCell ⟨w.heap.size + 1 + 1 + 1, 7, none⟩ (.int .i64 a')).setCell ⟨w.heap.size + 1 + 1 + 1, 8, none⟩ (.int .i64 n')) = wl at hs5 ho2 ⊢
                  have HS6 := Lib.hid hs5
                  have HZ6 := Lib.hid (ho2.at HZ5.out (by omega))
                  have HB6 := Lib.hid (HB5.out.trans (ho2.below (by omega) HB5.out.size))
                  have HJ6 := Lib.hid (fun w'' (hf : Fr w4.heap.size wl w'') hb => HJ5.out w'' ((Fr.only ho2 (by have := HSZ.out; omega)).trans hf) hb)
                  have HR6 := Lib.hid (fun w'' (hf : Fr w4.heap.size wl w'') hb => HR5.out w'' ((Fr.only ho2 (by have := HSZ.out; omega)).trans hf) hb)
                  have HW6 := Lib.hid (fun w'' (hf : Fr w4.heap.size wl w'') hb => HW5'.out w'' ((Fr.only ho2 (by have := HSZ.out; omega)).trans hf) hb)
                  clear hs5 ho2
                  clear HS5 HZ5 HB5 HJ5 HR5 HW5' HBb5 HL
                  obtain ⟨⟨s0, s1, s2, s3, s4, s5, s6, s7, s8⟩, _⟩ := row9_at HS6.out
                  obtain ⟨⟨z0, z1, z2, z3, z4, z5, z6, z7, z8⟩, y0, y1, y2, y3, y4, y5, y6, y7, y8⟩ := row9_at HZ6.out
                  go_wp2
                  have hput := row9_put HZ6.out (.slice aJ lJ cJ) (.slice aR lR cR) (.slice aW lW cW) (.int .i64 k') (.int .i64 c') (.int .i64 f') (.int .i64 v') (.int .i64 a') (.int .i64 n') w.heap.size (by omega)
                  have hon := onlyc9 (w := wl) (g := w.heap.size + 1 + 1) (.slice aJ lJ cJ) (.slice aR lR cR) (.slice aW lW cW) (.int .i64 k') (.int .i64 c') (.int .i64 f') (.int .i64 v') (.int .i64 a') (.int .i64 n')
                  refine rjoin_ret rfl hput.1 rfl ⟨_, rfl, ?_, HB6.out.trans hput.2⟩
                  rw [HF2.out true rfl]
                  intro w'' hf hra
                  have hra2 := HRA3.out _ hra
                  have hlast := (Fr.only (B := w4.heap.size) hon (by have := HSZ.out; omega)).trans (hf.mono (by have := HSZ.out; omega))
                  exact ⟨_, _, _, rfl, HJ6.out _ hlast hra2, HR6.out _ hlast hra2, HW6.out _ hlast hra2⟩
              · go_upto_region 21 with fail
                clear hneq heq hne hne2 b0 b1 b2 b3 b4 b5 b6 b7 b8 s0 s1 s2 s3 s4 s5 s6 s7 s8 f0 f1 f2 f3 f4 f5 f6 f7 f8 z0 z1 z2 z3 z4 z5 z6 z7 z8 y0 y1 y2 y3 y4 y5 y6 y7 y8 a0 a1 a2 a3 a4 a5 a6 a7 a8
                have HS6 := HS5
                have HZ6 := HZ5
                have HB6 := HB5
                have HJ6 := HJ5
                have HR6 := HR5
                have HW6 := HW5'
                clear HS5 HZ5 HB5 HJ5 HR5 HW5' HBb5 HL
                obtain ⟨⟨s0, s1, s2, s3, s4, s5, s6, s7, s8⟩, _⟩ := row9_at HS6.out
                obtain ⟨⟨z0, z1, z2, z3, z4, z5, z6, z7, z8⟩, y0, y1, y2, y3, y4, y5, y6, y7, y8⟩ := row9_at HZ6.out
                go_wp2
                have hput := row9_put HZ6.out (.slice aJ lJ cJ) (.slice aR lR cR) (.slice aW lW cW) (.int .i64 k) (.int .i64 c) (.int .i64 f) (.int .i64 v) (.int .i64 a) (.int .i64 n) w.heap.size (by omega)
                have hon := onlyc9 (w := w5) (g := w.heap.size + 1 + 1) (.slice aJ lJ cJ) (.slice aR lR cR) (.slice aW lW cW) (.int .i64 k) (.int .i64 c) (.int .i64 f) (.int .i64 v) (.int .i64 a) (.int .i64 n)
                refine rjoin_ret rfl hput.1 rfl ⟨_, rfl, ?_, HB6.out.trans hput.2⟩
                rw [HF2.out false rfl]
                intro w'' hf hra
                have hra2 := HRA3.out _ hra
                have hlast := (Fr.only (B := w4.heap.size) hon (by have := HSZ.out; omega)).trans (hf.mono (by have := HSZ.out; omega))
                exact ⟨_, _, _, rfl, HJ6.out _ hlast hra2, HR6.out _ hlast hra2, HW6.out _ hlast hra2⟩

end Go.Proofs.YthfpafnljnnndaaGreat

namespace Go.Proofs.YthfpafnljnnndaaGreat
open Go.RowKit Go.Joins
open JM (Chg)
open MM (Mem Ent Sm Tri)

/-! What reads on while the blocks of L are written. -/
def Ecx (L : List Nat) (w w' : World) : Prop := w.heap.size ≤ w'.heap.size ∧ ∀ k, k < w.heap.size → k ∉ L → w'.heap[k]? = w.heap[k]?
def RlS (L : List Nat) (w : World) (v : Value) (s : Sm) : Prop := ∀ w', Ecx L w w' → RdS w' v s
theorem Ecx.refl (L : List Nat) (w : World) : Ecx L w w := ⟨Nat.le_refl _, fun _ _ _ => rfl⟩
theorem Ecx.trans {L : List Nat} {a b c : World} (h : Ecx L a b) (k : Ecx L b c) : Ecx L a c :=
  ⟨Nat.le_trans h.1 k.1, fun i h1 h2 => (k.2 i (Nat.lt_of_lt_of_le h1 h.1) h2).trans (h.2 i h1 h2)⟩
theorem Ecx.of {L : List Nat} {w w' : World} (hb : Below w.heap.size w w') : Ecx L w w' := ⟨hb.size, fun i h1 _ => hb.block i h1⟩
theorem Ecx.put {L : List Nat} {g : Nat} {w w' : World} (ho : Only g w w') (hg : g ∈ L) : Ecx L w w' := ⟨ho.size, fun i h1 h2 => ho.block i h1 (fun e => h2 (e ▸ hg))⟩
theorem RlS.next {L : List Nat} {w w' : World} {v : Value} {s : Sm} (h : RlS L w v s) (he : Ecx L w w') : RlS L w' v s := fun w'' h2 => h w'' (he.trans h2)
theorem RlS.rd {L : List Nat} {w : World} {v : Value} {s : Sm} (h : RlS L w v s) : RdS w v s := h w (Ecx.refl _ _)

theorem rsumm_ret {R : Ending → World → Prop} {a : Act} {w : World} {g : Nat} {x y z : Value} {k c f v a' n : Int} (hp : a.tmps.getD 4 undef = .pointer (some ⟨g, 0, none⟩)) (hg : w.heap[g]? = some (.cells (s9 x y z k c f v a' n) 81 (0, 0)))
    (hd : a.defers = []) (hR : R (.returned (sv x y z k c f v a' n)) w) : bodyPost Tryz.prog Tryz.f49 R .ret a w :=
  bodyPost_ret (results_cell_row (P := Tryz.prog) rfl a.tmps w g 81 _ _ _ hp hg Tryz.underlying81 rfl (by kernel_rfl)) hd hR

set_option maxRecDepth 100000 in
set_option maxHeartbeats 4000000 in
theorem rSummarize (u v : Value) (k c f : Int) (ms : List Mem) (fs : List MM.Prp) (w : World) (hu : RdM w u ms) (h : RdF w v fs) (hg : MM.errG k c f ms = 0) (hml : ms.length ≤ 1000000) (hv : ∀ x ∈ fs, JM.errP x.1 x.2.1 x.2.2 = 0) (hl : fs.length ≤ 1000000) :
    Calls Tryz.prog 49 #[vw u k c f, v] w fun e w' => ∃ v', e = .returned v' ∧ RdS w' v' (MM.summR ms k c f fs) ∧ Below w.heap.size w w' := by
  obtain ⟨g1, g2, _⟩ := MM.errG_zero hg
  obtain ⟨w1, hw1, hB1, hsz1, hZ1⟩ : ∃ w1, (w.alloc (.cells #[u, .int .i64 k, .int .i64 c, .int .i64 f] 35)).alloc zBox = w1 ∧ Below w.heap.size w w1 ∧ w1.heap.size = w.heap.size + 2 ∧ w1.heap[w.heap.size + 1]? = some zBox :=
    ⟨_, rfl, bnext (below_fresh _ _) (below_fresh _ _), by simp, by rw [← World.size_alloc w (.cells #[u, .int .i64 k, .int .i64 c, .int .i64 f] 35)]; exact heap_alloc_new _ _⟩
  have hG1 : w1.heap[w.heap.size]? = some (.cells #[u, .int .i64 k, .int .i64 c, .int .i64 f] 35 (0, 0)) := by rw [← hw1]; exact below_block (heap_alloc_new w _) (below_fresh _ _)
  obtain ⟨⟨q0, q1, q2, q3⟩, _⟩ := row4_at hG1
  obtain ⟨ua, uc, rfl, _, _⟩ := hu.shape
  obtain ⟨va, vc, rfl, _, _⟩ := h.shape
  have HI := Lib.hid (rInitial _ k c f ms w1 (hu.below hB1) hml)
  obtain ⟨F, hF⟩ : ∃ F : Nat → Sm, F = fun j => MM.summR ms k c f (fs.take j) := ⟨_, rfl⟩
  have hF0 : F 0 = MM.ini ms k c f := by rw [hF]; rfl
  have hFN : F fs.length = MM.summR ms k c f fs := by rw [hF]; simp [List.take_length]
  have HFS := Lib.hid (show ∀ j (hj : j < fs.length), F (j + 1) = MM.join (F j) (MM.ofP fs[j].1 fs[j].2.1 fs[j].2.2) from fun j hj => by
    rw [hF]; simp only [MM.summR]; rw [List.take_succ_eq_append_getElem hj, List.foldl_append]; rfl)
  have HOK := Lib.hid (show ∀ j, MM.OkS (F j) from fun j => by rw [hF]; exact (MM.sp_summR g1 g2 (fun x hx => hv x (List.mem_of_mem_take hx))).ok)
  rw [← hFN]
  rw [← hF0] at HI
  have HH := Lib.hid h
  have HV := Lib.hid (show ∀ j (hj : j < fs.length), JM.errP fs[j].1 fs[j].2.1 fs[j].2.2 = 0 from fun j hj => hv _ (List.getElem_mem hj))
  have HB1 := Lib.hid hB1
  have HZ1 := Lib.hid hZ1
  have HSZ := Lib.hid hsz1
  have HW1 := Lib.hid hw1
  have hlen : (fs.length : Int) ≤ 1000000 := by omega
  clear hu h hg hv hl hml hB1 hsz1 hZ1 hG1 hw1 g1 g2 hF hF0 hFN
  go_enter Tryz.func49, Tryz.ntmps49
  go_wp2_with fail
  rw [HW1.out]
  go_wp2_with fail
  refine HI.out.mono ?_
  rintro e wi ⟨v1, rfl, hr1, hq1⟩
  have HB2 := Lib.hid (bnext HB1.out hq1)
  have HZ2 := Lib.hid (below_block HZ1.out hq1)
  obtain ⟨ax, lx, cx, ay, ly, cy, az, lz, cz, hv1⟩ := hr1.rd.shape
  subst hv1
  obtain ⟨S0, hS0⟩ : ∃ o, o = Obj.cells (s9 (.slice ax lx cx) (.slice ay ly cy) (.slice az lz cz) (F 0).k (F 0).c (F 0).f (F 0).v (F 0).a (F 0).n) 81 := ⟨_, rfl⟩
  have hb3 := below_fresh wi S0
  have hx3 := heap_alloc_new wi S0
  obtain ⟨X, hX⟩ : ∃ X, X = wi.heap.size := ⟨_, rfl⟩
  have hzx : w.heap.size + 1 < X := by have := hq1.size; have := HSZ.out; omega
  have hrl : RlS [w.heap.size + 1, X] (wi.alloc S0) (sv (.slice ax lx cx) (.slice ay ly cy) (.slice az lz cz) (F 0).k (F 0).c (F 0).f (F 0).v (F 0).a (F 0).n) (F 0) := by
    intro w'' he
    refine hr1 w'' ⟨Nat.le_trans hb3.size he.1, fun i h1 h2 => (he.2 i (Nat.lt_of_lt_of_le h2 hb3.size) (fun hi => ?_)).trans (hb3.block i h2)⟩
    have hs := HSZ.out
    simp only [List.mem_cons, List.mem_nil_iff, or_false] at hi
    omega
  rw [← hX] at hx3
  have HB3 := Lib.hid (bnext HB2.out hb3)
  have HZ3 := Lib.hid (below_block HZ2.out hb3)
  have hxl : X < (wi.alloc S0).heap.size := by rw [hX]; simp
  generalize hw3 : wi.alloc S0 = w3 at hx3 HB3 HZ3 hrl hxl
  rw [hS0] at hx3 hw3
  have HX3 := Lib.hid hx3
  have HW3 := Lib.hid hw3
  have HRL := Lib.hid hrl
  have HXL := Lib.hid hxl
  have HXE := Lib.hid hX
  have HZX := Lib.hid hzx
  clear hr1 hq1 HI q0 q1 q2 q3 hb3 hx3 hrl hw3 hX hS0 S0 hxl hzx HB2 HZ2 HB1 HZ1 HW1
  go_upto_region 2 with fail
  rw [HW3.out, ← HXE.out]
  clear HW3 HXE
  go_wp2
  go_loopw [6] (fun i wr => ∃ (j : Nat) (x y z : Value), j ≤ fs.length ∧ i = .int .i64 j ∧ Hid (Below w.heap.size w wr) ∧ Hid (wr.heap[w.heap.size + 1]? = some zBox) ∧ Hid (wr.heap[X]? = some (.cells (s9 x y z (F j).k (F j).c (F j).f (F j).v (F j).a (F j).n) 81 (0, 0))) ∧ Hid (RlS [w.heap.size + 1, X] wr (sv x y z (F j).k (F j).c (F j).f (F j).v (F j).a (F j).n) (F j))) (fun i _ => fs.length - (intOf i).toNat)
  case atStart => exact ⟨0, _, _, _, Nat.zero_le _, rfl, HB3, HZ3, HX3, HRL⟩
  case round =>
    obtain ⟨j, x, y, z, hj, rfl, hB, hZ, hXc, hR⟩ := hrel
    clear HB3 HZ3 HX3 HRL
    obtain ⟨ax, lx, cx, ay, ly, cy, az, lz, cz, hvs⟩ := hR.out.rd.shape
    have hvs := hvs
    unfold sv at hvs
    injection hvs with hvs
    injection hvs with hvs
    injection hvs with e0 hvs
    injection hvs with e1 hvs
    injection hvs with e2 hvs
    subst e0 e1 e2
    clear hvs
    by_cases hlt : j < fs.length
    · have hq : (j : Int) < (fs.length : Int) := by omega
      have HN := Lib.hid (HFS.out j hlt)
      have hvj := HV.out j hlt
      obtain ⟨b, o, sa, slen, sc, hi, hb, c0, c1, c2, hrc⟩ := HH.out.at_ j fs[j].1 fs[j].2.1 fs[j].2.2 (by rw [List.getElem?_eq_getElem hlt])
      have HOF := Lib.hid (fun wa (hb : Below wr.heap.size wr wa) => rOf fs[j].1 fs[j].2.1 _ fs[j].2.2 wa (hrc.below (bnext hB.out hb)) hvj)
      have hok2 := MM.okS_ofP hvj
      generalize MM.ofP fs[j].1 fs[j].2.1 fs[j].2.2 = T at HN HOF hok2
      have HJN := Lib.hid (fun (va vb : Value) wa (h1 : RdS wa va (F j)) (h2 : RdS wa vb T) => rJoin va vb (F j) T wa h1 h2 (HOK.out j) hok2)
      rw [← HN.out] at HJN
      have HC := Lib.hid (And.intro c0 (And.intro c1 c2))
      have HIX := Lib.hid hi
      have HXW := Lib.hid (Array.getElem?_eq_some_iff.1 hXc.out).1
      generalize fs[j].1 = ad at HC HOF
      generalize fs[j].2.1 = nu at HC HOF
      clear hvj hok2 hb c0 c1 c2 hrc hi HN HFS HV
      go_wp2_with fail
      have hdr : Below w.heap.size w wr.drew := hB.out.drew
      refine wp_region_held_drew (S := fun w' => Below w.heap.size w w') (by kernel_rfl) hdr (fun _ => ?_)
      replace hdr : Below w.heap.size w wr.drew := hB.out.drew
      have ha : Below wr.heap.size wr wr.drew := (Below.refl _ _).drew
      have hXc2 := Lib.hid (show wr.drew.heap[X]? = _ from hXc.out)
      generalize wr.drew = wa at ha hdr hXc2 ⊢
      refine takeH (i := 1) (v := ?_) rfl (by kernel_rfl) (by kernel_rfl) (by kernel_rfl) (fun _ _ _ h => h) (Or.inl ⟨by rfl, ?_⟩) (by assumption) ?_
      rotate_left
      · (intro w hSw; (try dsimp only at hSw); go_simp; first | done | with_reducible rfl)
      (try simp only [Act.put, List.setIfInBounds_toArray, List.set_cons_zero, List.set_cons_succ])
      refine takeH (i := 2) (v := ?_) rfl (by kernel_rfl) (by kernel_rfl) (by kernel_rfl) (fun _ _ _ h => h) (Or.inl ⟨by rfl, ?_⟩) (by assumption) ?_
      rotate_left
      · (intro w hSw; (try dsimp only at hSw); go_simp; first | done | with_reducible rfl)
      (try simp only [Act.put, List.setIfInBounds_toArray, List.set_cons_zero, List.set_cons_succ])
      refine takeH (i := 3) (v := ?_) rfl (by kernel_rfl) (by kernel_rfl) (by kernel_rfl) (fun _ _ _ h => h) (Or.inl ⟨by rfl, ?_⟩) (by assumption) ?_
      rotate_left
      · (intro w0 hSw; (try dsimp only at hSw); have hi0 := HIX.out w0; go_simp; first | done | with_reducible rfl)
      (try simp only [Act.put, List.setIfInBounds_toArray, List.set_cons_zero, List.set_cons_succ])
      refine takeH (i := 4) (v := ?_) rfl (by kernel_rfl) (by kernel_rfl) (by kernel_rfl) (fun _ _ _ h => h) (Or.inl ⟨by rfl, ?_⟩) (by assumption) ?_
      rotate_left
      · (intro w0 hSw; (try dsimp only at hSw); have c0 := below_cell hSw HC.out.1; have c1 := below_cell hSw HC.out.2.1; have c2 := below_cell hSw HC.out.2.2; go_simp; first | done | with_reducible rfl)
      (try simp only [Act.put, List.setIfInBounds_toArray, List.set_cons_zero, List.set_cons_succ])
      refine wpAnyH_ready (rs := [0, 5]) (by kernel_rfl) (by simp) ?_
      refine (stepH rfl (fun K hK => ?_) (stepH rfl (fun K hK => ?_) AllReadyH.nil))
      · obtain ⟨⟨s0, s1, s2, s3, s4, s5, s6, s7, s8⟩, _⟩ := row9_at hXc2.out
        go_simp
        refine hK.out _ _ (hdr) (fun _ => ?_)
        clear hK K
        (try simp only [Act.put, List.setIfInBounds_toArray, List.set_cons_zero, List.set_cons_succ])
        clear s0 s1 s2 s3 s4 s5 s6 s7 s8
        refine wpAnyH_ready (rs := [5]) (by kernel_rfl) (by simp) ?_
        refine stepH rfl (fun K hK => ?_) AllReadyH.nil
        go_simp
        refine (HOF.out wa ha).mono ?_
        rintro e wb ⟨v2, rfl, hr2, hq⟩
        have hb := bnext ha hq
        have hr2 := hr2.rd
        have hr1 := (hR.out.next (Ecx.of hb)).rd
        have hXb := below_block hXc.out hb
        clear hq
        go_wp2_with fail
        refine hK.out _ _ (bnext hB.out hb) (fun _ => ?_)
        clear hK K
        (try simp only [Act.put, List.setIfInBounds_toArray, List.set_cons_zero, List.set_cons_succ])
        refine wpAnyH_ready (rs := [6]) (by kernel_rfl) (by simp) ?_
        refine stepH rfl (fun K hK => ?_) AllReadyH.nil
        go_simp
        refine (HJN.out _ v2 wb hr1 hr2).mono ?_
        rintro e wc ⟨v3, rfl, hr3, hq⟩
        have hc := bnext hb hq
        have hrd3 := hr3 wc (Fr.refl _ _) (hR.out.next (Ecx.of hc)).rd
        obtain ⟨ax', lx', cx', ay', ly', cy', az', lz', cz', hv3⟩ := hrd3.shape
        subst hv3
        have HR3 := Lib.hid hr3
        have HBL := Lib.hid hb.size
        clear hr3 hr1 hr2 hq hrd3
        go_wp2_with fail
        refine hK.out _ _ (bnext hB.out hc) (fun _ => ?_)
        clear hK K
        (try simp only [Act.put, List.setIfInBounds_toArray, List.set_cons_zero, List.set_cons_succ])
        have HX4 := Lib.hid (below_block hXc.out hc)
        obtain ⟨⟨z0, z1, z2, z3, z4, z5, z6, z7, z8⟩, f0, f1, f2, f3, f4, f5, f6, f7, f8⟩ := row9_at HX4.out
        have hput := row9_put HX4.out (.slice ax' lx' cx') (.slice ay' ly' cy') (.slice az' lz' cz') (.int .i64 (F (j + 1)).k) (.int .i64 (F (j + 1)).c) (.int .i64 (F (j + 1)).f) (.int .i64 (F (j + 1)).v) (.int .i64 (F (j + 1)).a) (.int .i64 (F (j + 1)).n) w.heap.size (by have := HZX.out; omega)
        have hon := onlyc9 (w := wc) (g := X) (.slice ax' lx' cx') (.slice ay' ly' cy') (.slice az' lz' cz') (.int .i64 (F (j + 1)).k) (.int .i64 (F (j + 1)).c) (.int .i64 (F (j + 1)).f) (.int .i64 (F (j + 1)).v) (.int .i64 (F (j + 1)).a) (.int .i64 (F (j + 1)).n)
        have HPUT := Lib.hid hput.1
        have HEND := Lib.hid ((bnext hB.out hc).trans hput.2)
        have HZE := Lib.hid (hon.at (below_block hZ.out hc) (by have := HZX.out; omega))
        have HFIN := Lib.hid (show RlS [w.heap.size + 1, X] _ _ (F (j + 1)) from fun w'' he => HR3.out w'' ((Fr.only (B := wb.heap.size) hon (Nat.lt_of_lt_of_le HXW.out HBL.out)).trans ⟨he.1, fun i h1 h2 => he.2 i h2 (fun hi => by
          have := HXW.out; have := HBL.out; have := HZX.out
          simp only [List.mem_cons, List.mem_nil_iff, or_false] at hi
          omega)⟩) (hR.out w'' ((Ecx.of hc).trans ((Ecx.put hon (by simp)).trans he))))
        clear hput hon HX4
        have hSt : Below wr.heap.size wr wr := Below.refl _ _
        refine wpAnyH_ready (rs := [7]) (by kernel_rfl) (by simp) ?_
        refine stepH rfl (fun K hK => ?_) AllReadyH.nil
        go_simp
        refine hK.out _ _ (HEND.out) (fun _ => ?_)
        clear hK K
        (try simp only [Act.put, List.setIfInBounds_toArray, List.set_cons_zero, List.set_cons_succ])
        refine wpAnyH_done (by kernel_rfl) ?_ _
        clear z0 z1 z2 z3 z4 z5 z6 z7 z8 f0 f1 f2 f3 f4 f5 f6 f7 f8
        go_wp2
        go_roundw
        case rel => exact ⟨j + 1, _, _, _, by omega, by go_num, HEND, HZE, HPUT, HFIN⟩
        case measure => simp [intOf]; omega
      · go_simp
        refine (HOF.out wa ha).mono ?_
        rintro e wb ⟨v2, rfl, hr2, hq⟩
        have hb := bnext ha hq
        have hr2 := hr2.rd
        have hr1 := (hR.out.next (Ecx.of hb)).rd
        have hXb := below_block hXc.out hb
        clear hq
        go_wp2_with fail
        refine hK.out _ _ (bnext hB.out hb) (fun _ => ?_)
        clear hK K
        (try simp only [Act.put, List.setIfInBounds_toArray, List.set_cons_zero, List.set_cons_succ])
        refine wpAnyH_ready (rs := [0]) (by kernel_rfl) (by simp) ?_
        refine stepH rfl (fun K hK => ?_) AllReadyH.nil
        obtain ⟨⟨s0, s1, s2, s3, s4, s5, s6, s7, s8⟩, _⟩ := row9_at hXb
        go_simp
        refine hK.out _ _ (bnext hB.out hb) (fun _ => ?_)
        clear hK K
        (try simp only [Act.put, List.setIfInBounds_toArray, List.set_cons_zero, List.set_cons_succ])
        clear s0 s1 s2 s3 s4 s5 s6 s7 s8
        refine wpAnyH_ready (rs := [6]) (by kernel_rfl) (by simp) ?_
        refine stepH rfl (fun K hK => ?_) AllReadyH.nil
        go_simp
        refine (HJN.out _ v2 wb hr1 hr2).mono ?_
        rintro e wc ⟨v3, rfl, hr3, hq⟩
        have hc := bnext hb hq
        have hrd3 := hr3 wc (Fr.refl _ _) (hR.out.next (Ecx.of hc)).rd
        obtain ⟨ax', lx', cx', ay', ly', cy', az', lz', cz', hv3⟩ := hrd3.shape
        subst hv3
        have HR3 := Lib.hid hr3
        have HBL := Lib.hid hb.size
        clear hr3 hr1 hr2 hq hrd3
        go_wp2_with fail
        refine hK.out _ _ (bnext hB.out hc) (fun _ => ?_)
        clear hK K
        (try simp only [Act.put, List.setIfInBounds_toArray, List.set_cons_zero, List.set_cons_succ])
        have HX4 := Lib.hid (below_block hXc.out hc)
        obtain ⟨⟨z0, z1, z2, z3, z4, z5, z6, z7, z8⟩, f0, f1, f2, f3, f4, f5, f6, f7, f8⟩ := row9_at HX4.out
        have hput := row9_put HX4.out (.slice ax' lx' cx') (.slice ay' ly' cy') (.slice az' lz' cz') (.int .i64 (F (j + 1)).k) (.int .i64 (F (j + 1)).c) (.int .i64 (F (j + 1)).f) (.int .i64 (F (j + 1)).v) (.int .i64 (F (j + 1)).a) (.int .i64 (F (j + 1)).n) w.heap.size (by have := HZX.out; omega)
        have hon := onlyc9 (w := wc) (g := X) (.slice ax' lx' cx') (.slice ay' ly' cy') (.slice az' lz' cz') (.int .i64 (F (j + 1)).k) (.int .i64 (F (j + 1)).c) (.int .i64 (F (j + 1)).f) (.int .i64 (F (j + 1)).v) (.int .i64 (F (j + 1)).a) (.int .i64 (F (j + 1)).n)
        have HPUT := Lib.hid hput.1
        have HEND := Lib.hid ((bnext hB.out hc).trans hput.2)
        have HZE := Lib.hid (hon.at (below_block hZ.out hc) (by have := HZX.out; omega))
        have HFIN := Lib.hid (show RlS [w.heap.size + 1, X] _ _ (F (j + 1)) from fun w'' he => HR3.out w'' ((Fr.only (B := wb.heap.size) hon (Nat.lt_of_lt_of_le HXW.out HBL.out)).trans ⟨he.1, fun i h1 h2 => he.2 i h2 (fun hi => by
          have := HXW.out; have := HBL.out; have := HZX.out
          simp only [List.mem_cons, List.mem_nil_iff, or_false] at hi
          omega)⟩) (hR.out w'' ((Ecx.of hc).trans ((Ecx.put hon (by simp)).trans he))))
        clear hput hon HX4
        have hSt : Below wr.heap.size wr wr := Below.refl _ _
        refine wpAnyH_ready (rs := [7]) (by kernel_rfl) (by simp) ?_
        refine stepH rfl (fun K hK => ?_) AllReadyH.nil
        go_simp
        refine hK.out _ _ (HEND.out) (fun _ => ?_)
        clear hK K
        (try simp only [Act.put, List.setIfInBounds_toArray, List.set_cons_zero, List.set_cons_succ])
        refine wpAnyH_done (by kernel_rfl) ?_ _
        clear z0 z1 z2 z3 z4 z5 z6 z7 z8 f0 f1 f2 f3 f4 f5 f6 f7 f8
        go_wp2
        go_roundw
        case rel => exact ⟨j + 1, _, _, _, by omega, by go_num, HEND, HZE, HPUT, HFIN⟩
        case measure => simp [intOf]; omega
    · have hq : ¬ ((j : Int) < (fs.length : Int)) := by omega
      obtain rfl : j = fs.length := by omega
      obtain ⟨⟨s0, s1, s2, s3, s4, s5, s6, s7, s8⟩, _⟩ := row9_at hXc.out
      obtain ⟨⟨z0, z1, z2, z3, z4, z5, z6, z7, z8⟩, f0, f1, f2, f3, f4, f5, f6, f7, f8⟩ := row9_at hZ.out
      go_wp2
      have hput := row9_put hZ.out (.slice ax lx cx) (.slice ay ly cy) (.slice az lz cz) (.int .i64 (F fs.length).k) (.int .i64 (F fs.length).c) (.int .i64 (F fs.length).f) (.int .i64 (F fs.length).v) (.int .i64 (F fs.length).a) (.int .i64 (F fs.length).n) w.heap.size (by omega)
      have hon := onlyc9 (w := wr) (g := w.heap.size + 1) (.slice ax lx cx) (.slice ay ly cy) (.slice az lz cz) (.int .i64 (F fs.length).k) (.int .i64 (F fs.length).c) (.int .i64 (F fs.length).f) (.int .i64 (F fs.length).v) (.int .i64 (F fs.length).a) (.int .i64 (F fs.length).n)
      exact rsumm_ret rfl hput.1 rfl ⟨_, rfl, (hR.out.next (Ecx.put hon (by simp))).rd, hB.out.trans hput.2⟩

end Go.Proofs.YthfpafnljnnndaaGreat

namespace Go.Proofs.YthfpafnljnnndaaGreat
open Go.RowKit Go.Joins
open MM (Mem Ent Sm Tri)

theorem wtOf_cons (e : Ent) (l : List Ent) (x : Int) : MM.wtOf (e :: l) x = if e.1 = x then e.2.1 else MM.wtOf l x := by
  unfold MM.wtOf
  rw [MM.lk]
  by_cases h : e.1 = x
  · simp [MM.kW, h]
  · simp [MM.kW, h]

set_option maxRecDepth 100000 in
set_option maxHeartbeats 2000000 in
theorem rWeight (xv : Value) (s : Sm) (n : Int) (w : World) (h : RdS w xv s) (hl : s.W.length ≤ 1000000) :
    Calls Tryz.prog 76 #[xv, .int .i64 n] w fun e w' => e = .returned (.int .i64 (MM.wtOf s.W n)) ∧ Below w.heap.size w w' := by
  obtain ⟨x, y, z, rfl, _, _, hw⟩ := h
  obtain ⟨R, hR⟩ : ∃ R, R = MM.wtOf s.W n := ⟨_, rfl⟩
  rw [← hR]
  obtain ⟨J, Rm, Ws, k, c, f, v, a, m⟩ := s
  dsimp only at hw hl hR
  obtain ⟨az, cz, rfl, _, _⟩ := hw.shape
  obtain ⟨w1, hw1⟩ : ∃ w1, w.alloc (.cells (s9 x y (.slice az Ws.length cz) k c f v a m) 81) = w1 := ⟨_, rfl⟩
  have hB := below_fresh w (.cells (s9 x y (.slice az Ws.length cz) k c f v a m) 81)
  have hX := heap_alloc_new w (.cells (s9 x y (.slice az Ws.length cz) k c f v a m) 81)
  rw [hw1] at hB hX
  have HRW := Lib.hid (hw.below hB)
  have HX := Lib.hid hX
  have HB := Lib.hid hB
  have HW := Lib.hid hw1
  have HL := Lib.hid hl
  have HR := Lib.hid (show R = MM.wtOf (Ws.drop 0) n from hR)
  have HB1 := Lib.hid (Below.refl w1.heap.size w1)
  clear hw hl hR hB hX hw1
  go_enter Tryz.func76, Tryz.ntmps76
  go_wp2
  rw [HW.out]
  go_loopw [5] (fun i wr => ∃ j : Nat, j ≤ Ws.length ∧ i = .int .i64 j ∧ Hid (Below w1.heap.size w1 wr) ∧ Hid (R = MM.wtOf (Ws.drop j) n)) (fun i _ => Ws.length - (intOf i).toNat)
  case atStart => exact ⟨0, Nat.zero_le _, rfl, HB1, HR⟩
  case round =>
    clear HB1 HR HW
    obtain ⟨j, hj, rfl, HB1, he⟩ := hrel
    obtain ⟨⟨s0, s1, s2, s3, s4, s5, s6, s7, s8⟩, _⟩ := row9_at (below_block HX.out HB1.out)
    by_cases hlt : j < Ws.length
    · have hq : (j : Int) < (Ws.length : Int) := by omega
      have hjb : (j : Int) ≤ 1000000 := by have := HL.out; omega
      have hd := Lib.hid (drop_get hlt)
      obtain ⟨⟨q1, q2, q3, q4, q5⟩, hx⟩ : ∃ e : Ent, e = Ws[j] := ⟨_, rfl⟩
      have hg : Ws[j]? = some (q1, q2, q3, q4, q5) := by rw [List.getElem?_eq_getElem hlt, ← hx]
      rw [← hx] at hd
      obtain ⟨b, o, hi, hbb, c0, c1, c2, c3, c4⟩ := atW (HRW.out.below HB1.out) j q1 q2 q3 q4 q5 hg
      clear hx hg
      by_cases hyx : q1 = n
      · subst hyx
        have e2 := Lib.hid (show R = q2 by rw [he.out, hd.out, wtOf_cons]; simp)
        clear he hd
        go_wp2
        go_ret
        rw [e2.out]
        exact ⟨rfl, bnext HB.out HB1.out⟩
      · have e2 := Lib.hid (show R = MM.wtOf (Ws.drop (j + 1)) n by rw [he.out, hd.out, wtOf_cons, if_neg hyx])
        have hne : (q1 == n) = false := by simpa using hyx
        clear he hd
        go_wp2
        go_roundw
        case rel => exact ⟨j + 1, by omega, by go_num, HB1, e2⟩
        case measure => simp [intOf]; omega
    · have hq : ¬ ((j : Int) < (Ws.length : Int)) := by omega
      have e2 := Lib.hid (show R = 1 by rw [he.out, List.drop_of_length_le (by omega)]; rfl)
      clear he
      go_wp2
      go_ret
      rw [e2.out]
      exact ⟨rfl, bnext HB.out HB1.out⟩

/-! The members so far. -/
def mj (s : Sm) (j : Nat) : List Mem := ((s.J.take j).filter fun x => !s.R.contains x).map fun x => (x, MM.wtOf s.W x)
theorem mj_succ (s : Sm) (j : Nat) (x : Int) (h : s.J[j]? = some x) : mj s (j + 1) = if s.R.contains x then mj s j else mj s j ++ [(x, MM.wtOf s.W x)] := by
  unfold mj
  rw [List.take_add_one, h, List.filter_append, List.map_append]
  have e : (([x] : List Int).filter fun x => !s.R.contains x) = if s.R.contains x then [] else [x] := by
    rw [List.filter_cons, List.filter_nil]
    cases s.R.contains x <;> rfl
  show List.map _ (List.filter _ _) ++ List.map _ (List.filter _ [x]) = _
  rw [e]
  cases s.R.contains x
  · rfl
  · exact List.append_nil _
theorem mj_len (s : Sm) (j : Nat) : (mj s j).length ≤ j := by
  unfold mj
  rw [List.length_map]
  exact Nat.le_trans (List.length_filter_le _ _) (by rw [List.length_take]; omega)
theorem mj_all (s : Sm) : mj s s.J.length = MM.mems s := by unfold mj MM.mems; rw [List.take_length]
theorem rview_ret {R : Ending → World → Prop} {a : Act} {w : World} {g : Nat} {s : Value} {k c f : Int} (hp : a.tmps.getD 2 undef = .pointer (some ⟨g, 0, none⟩)) (hg : w.heap[g]? = some (.cells (v4 s k c f) 41 (0, 0)))
    (hd : a.defers = []) (hR : R (.returned (vw s k c f)) w) : bodyPost Tryz.prog Tryz.f48 R .ret a w :=
  bodyPost_ret (results_cell_row (P := Tryz.prog) rfl a.tmps w g 41 _ _ _ hp hg Tryz.underlying41 rfl (by kernel_rfl)) hd hR
theorem view_blocks (w : World) (o1 o2 o3 : Obj) :
    ∃ w3, ((w.alloc o1).alloc o2).alloc o3 = w3 ∧ Below w.heap.size w w3 ∧ w3.heap.size = w.heap.size + 3 ∧ w3.heap[w.heap.size]? = some o1 ∧ w3.heap[w.heap.size + 1]? = some o2 ∧ w3.heap[w.heap.size + 1 + 1]? = some o3 := by
  have b1 := below_fresh w o1
  have h1 := heap_alloc_new w o1
  have z1 := World.size_alloc w o1
  generalize w.alloc o1 = wa at *
  have b2 := below_fresh wa o2
  have h2 := heap_alloc_new wa o2
  have z2 := World.size_alloc wa o2
  generalize wa.alloc o2 = wb at *
  have b3 := below_fresh wb o3
  have h3 := heap_alloc_new wb o3
  have z3 := World.size_alloc wb o3
  rw [z1] at h2
  rw [z2, z1] at h3
  exact ⟨_, rfl, bnext (bnext b1 b2) b3, by omega, below_block (below_block h1 b2) b3, below_block h2 b3, h3⟩

set_option maxRecDepth 100000 in
set_option maxHeartbeats 8000000 in
theorem rViewO (xv : Value) (s : Sm) (w : World) (h : RdS w xv s) (hl : s.J.length ≤ 1000000 ∧ s.R.length ≤ 1000000 ∧ s.W.length ≤ 1000000) :
    Calls Tryz.prog 48 #[xv] w fun e w' => ∃ sl, e = .returned (vw sl (MM.vk s) s.c s.f) ∧ OwnM w.heap.size w' sl (MM.mems s) ∧ Below w.heap.size w w' := by
  have hRS := h
  obtain ⟨x, y, z, rfl, hj, hr, hw⟩ := h
  have HWT := Lib.hid (fun w' (hb : Below w.heap.size w w') n => rWeight (sv x y z s.k s.c s.f s.v s.a s.n) s n w' (hRS.below hb) hl.2.2)
  have HIN := Lib.hid (fun w' (hb : Below w.heap.size w w') n => rIn y s.R n w' (hr.below hb))
  have HLJ := Lib.hid hl.1
  have HALL := Lib.hid (mj_all s)
  have HSUC := Lib.hid (mj_succ s)
  have HMLN := Lib.hid (mj_len s)
  have HM0 := Lib.hid (show mj s 0 = [] by unfold mj; simp)
  have HVK := Lib.hid (show MM.vk s = if MM.rz s then 1 else s.k from rfl)
  have HRZ := Lib.hid (show MM.rz s = decide (s.k = 0 ∧ s.c = 0 ∧ s.f = 0) from rfl)
  have HJL := Lib.hid hj
  obtain ⟨ax, cx, hx, _, _⟩ := hj.shape
  obtain ⟨ary, cry, hy, _, _⟩ := hr.shape
  obtain ⟨az, cz, hz, _, _⟩ := hw.shape
  subst hx hy hz
  generalize MM.mems s = MS at HALL ⊢
  generalize mj s = MJ at HALL HSUC HMLN HM0
  generalize MM.vk s = vk at HVK ⊢
  generalize MM.rz s = za at HVK HRZ
  clear hRS hj hr hw hl
  obtain ⟨J, Rm, Ws, k, c, f, v, a, n⟩ := s
  dsimp only at HWT HIN HLJ HALL HSUC HMLN HVK HRZ HJL ⊢
  generalize Rm.length = lr at HIN HWT ⊢
  generalize Ws.length = lw at HIN HWT ⊢
  generalize Rm.contains = RC at HIN HSUC
  generalize MM.wtOf Ws = WO at HWT HSUC
  obtain ⟨w3, hw3, hB3, hz3, hp3, hr3, hv3⟩ := view_blocks w (Obj.cells (s9 (.slice ax J.length cx) (.slice ary lr cry) (.slice az lw cz) k c f v a n) 81 (0, 0)) (Obj.cells (v4 (.slice none 0 0) 0 0 0) 41 (0, 0)) (Obj.cells (v4 (.slice none 0 0) k c f) 41 (0, 0))
  have HW3 := Lib.hid hw3
  have HP5 := Lib.hid hp3
  have HZ5 := Lib.hid hr3
  have HG5 := Lib.hid hv3
  have HB5 := Lib.hid hB3
  have HSZ := Lib.hid hz3
  have heq := fun w => eql_rule k c f 0 0 0 w
  rw [← HRZ.out] at heq
  clear hw3 hp3 hr3 hv3 hB3 hz3
  have HM5 := Lib.hid (show OwnM (w.heap.size + 3) w3 (.slice none 0 0) (MJ 0) by rw [HM0.out]; exact OwnG.nil hlM _ _ _)
  go_enter Tryz.func48, Tryz.ntmps48
  go_upto_region 2 with fail
  rw [HW3.out]
  obtain ⟨⟨p0, p1, p2, p3, p4, p5, p6, p7, p8⟩, _⟩ := row9_at HP5.out
  obtain ⟨⟨q0, q1, q2, q3⟩, g0, g1, g2, g3⟩ := row4_at HG5.out
  cases za
  · have HK := Lib.hid (show vk = k from HVK.out)
    have HC := Lib.hid (rfl : c = c)
    have HF := Lib.hid (rfl : f = f)
    go_upto_region 4 with fail
    clear heq p0 p1 p2 p3 p4 p5 p6 p7 p8 q0 q1 q2 q3 g0 g1 g2 g3 HVK HRZ HW3
    have HS3 := Lib.hid (show w.heap.size + 3 ≤ w3.heap.size by have := HSZ.out; omega)
    go_wp2
    go_loopw [4] (fun i wr => ∃ (j : Nat) (sl : Value), j ≤ J.length ∧ i = .int .i64 j ∧ Hid (wr.heap[w.heap.size]? = some (.cells (s9 (.slice ax J.length cx) (.slice ary lr cry) (.slice az lw cz) k c f v a n) 81 (0, 0))) ∧ Hid (wr.heap[w.heap.size + 1]? = some (.cells (v4 (.slice none 0 0) 0 0 0) 41 (0, 0))) ∧ Hid (wr.heap[w.heap.size + 1 + 1]? = some (.cells (v4 sl k c f) 41 (0, 0))) ∧ Hid (OwnM (w.heap.size + 3) wr sl (MJ j)) ∧ Hid (Below w.heap.size w wr) ∧ Hid (w.heap.size + 3 ≤ wr.heap.size)) (fun i _ => J.length - (intOf i).toNat)
    case atStart => exact ⟨0, _, Nat.zero_le _, rfl, HP5, HZ5, HG5, HM5, HB5, HS3⟩
    case round =>
      clear HP5 HZ5 HG5 HM5 HB5 HS3
      obtain ⟨j, sl, hj, rfl, HP5, HZ5, HG5, HM5, HB5, HS5⟩ := hrel
      obtain ⟨sa, slen, sc, hvs⟩ : ∃ a l c, sl = .slice a l c := by obtain ⟨a, c, h, _⟩ := HM5.out.rd.shape; exact ⟨a, _, c, h⟩
      subst hvs
      by_cases hlt : j < J.length
      · have hq : (j : Int) < (J.length : Int) := by omega
        have hjb : (j : Int) ≤ 1000000 := by have := HLJ.out; omega
        obtain ⟨m, hx⟩ : ∃ m : Int, J[j]? = some m := ⟨_, List.getElem?_eq_getElem hlt⟩
        obtain ⟨o1, oo, hi, hob, c0⟩ := atI HJL.out j m hx
        have HHI := Lib.hid hi
        have HCL := Lib.hid (fun w' (b : Below w.heap.size w w') => (b.cell hob).trans c0)
        have HSN := Lib.hid (HSUC.out j m hx)
        have HLN := Lib.hid (show (MJ j).length ≤ 1073741824 by have := HMLN.out j; have := HLJ.out; omega)
        have HWM := Lib.hid (fun w' (b : Below w.heap.size w w') => HWT.out w' b m)
        have HIM := Lib.hid (fun w' (b : Below w.heap.size w w') => HIN.out w' b m)
        generalize WO m = WT at HSN HWM
        generalize RC m = rb at HSN HIM
        obtain ⟨⟨p0, p1, p2, p3, p4, p5, p6, p7, p8⟩, _⟩ := row9_at HP5.out
        clear hx hi hob c0
        go_wp2
        clear p0 p1 p2 p3 p4 p5 p6 p7 p8
        refine wp_region_held_drew (S := fun w' => Below wr.heap.size wr w') (by kernel_rfl) ((Below.refl _ _).drew) (fun ha => ?_)
        replace ha : Below wr.heap.size wr wr.drew := (Below.refl _ _).drew
        generalize wr.drew = wa at ha ⊢
        refine takeH (i := 0) (v := ?_) rfl (by kernel_rfl) (by kernel_rfl) (by kernel_rfl) (fun _ _ _ h => h) (Or.inl ⟨by rfl, ?_⟩) (by assumption) ?_
        rotate_left
        · (intro w hSw; (try dsimp only at hSw); go_simp; first | done | with_reducible rfl)
        (try simp only [Act.put, List.setIfInBounds_toArray, List.set_cons_zero, List.set_cons_succ])
        refine takeH (i := 1) (v := ?_) rfl (by kernel_rfl) (by kernel_rfl) (by kernel_rfl) (fun _ _ _ h => h) (Or.inl ⟨by rfl, ?_⟩) (by assumption) ?_
        rotate_left
        · (intro w hSw; (try dsimp only at hSw); obtain ⟨⟨p0, p1, p2, p3, p4, p5, p6, p7, p8⟩, _⟩ := row9_at (below_block HP5.out hSw); go_simp; first | done | with_reducible rfl)
        (try simp only [Act.put, List.setIfInBounds_toArray, List.set_cons_zero, List.set_cons_succ])
        refine takeH (i := 2) (v := ?_) rfl (by kernel_rfl) (by kernel_rfl) (by kernel_rfl) (fun _ _ _ h => h) (Or.inl ⟨by rfl, ?_⟩) (by assumption) ?_
        rotate_left
        · (intro w hSw; (try dsimp only at hSw); go_simp; first | done | with_reducible rfl)
        (try simp only [Act.put, List.setIfInBounds_toArray, List.set_cons_zero, List.set_cons_succ])
        refine takeH (i := 3) (v := ?_) rfl (by kernel_rfl) (by kernel_rfl) (by kernel_rfl) (fun _ _ _ h => h) (Or.inl ⟨by rfl, ?_⟩) (by assumption) ?_
        rotate_left
        · (intro w hSw; (try dsimp only at hSw); obtain ⟨⟨p0, p1, p2, p3, p4, p5, p6, p7, p8⟩, _⟩ := row9_at (below_block HP5.out hSw); go_simp; first | done | with_reducible rfl)
        (try simp only [Act.put, List.setIfInBounds_toArray, List.set_cons_zero, List.set_cons_succ])
        refine takeH (i := 4) (v := ?_) rfl (by kernel_rfl) (by kernel_rfl) (by kernel_rfl) (fun _ _ _ h => h) (Or.inl ⟨by rfl, ?_⟩) (by assumption) ?_
        rotate_left
        · (intro w hSw; (try dsimp only at hSw); go_simp; first | done | with_reducible rfl)
        (try simp only [Act.put, List.setIfInBounds_toArray, List.set_cons_zero, List.set_cons_succ])
        refine takeH (i := 5) (v := ?_) rfl (by kernel_rfl) (by kernel_rfl) (by kernel_rfl) (fun _ _ _ h => h) (Or.inl ⟨by rfl, ?_⟩) (by assumption) ?_
        rotate_left
        · (intro w hSw; (try dsimp only at hSw); have hi := HHI.out; go_simp; first | done | with_reducible rfl)
        (try simp only [Act.put, List.setIfInBounds_toArray, List.set_cons_zero, List.set_cons_succ])
        refine takeH (i := 6) (v := ?_) rfl (by kernel_rfl) (by kernel_rfl) (by kernel_rfl) (fun _ _ _ h => h) (Or.inl ⟨by rfl, ?_⟩) (by assumption) ?_
        rotate_left
        · (intro w hSw; (try dsimp only at hSw); have hc := HCL.out w (bnext HB5.out hSw); go_simp; first | done | with_reducible rfl)
        (try simp only [Act.put, List.setIfInBounds_toArray, List.set_cons_zero, List.set_cons_succ])
        refine wpAnyH_ready (rs := [7]) (by kernel_rfl) (by simp) ?_
        refine stepH rfl (fun K hK => ?_) AllReadyH.nil
        go_simp
        refine (HIM.out wa (bnext HB5.out ha)).mono ?_
        rintro e wb ⟨rfl, hq⟩
        have hb := bnext ha hq
        go_wp2_with fail
        refine hK.out _ _ (hb) (fun _ => ?_)
        clear hK K
        (try simp only [Act.put, List.setIfInBounds_toArray, List.set_cons_zero, List.set_cons_succ])
        refine takeH (i := 8) (v := ?_) rfl (by kernel_rfl) (by kernel_rfl) (by kernel_rfl) (fun _ _ _ h => h) (Or.inl ⟨by rfl, ?_⟩) (by assumption) ?_
        rotate_left
        · (intro w hSw; (try dsimp only at hSw); go_simp; first | done | with_reducible rfl)
        (try simp only [Act.put, List.setIfInBounds_toArray, List.set_cons_zero, List.set_cons_succ])
        refine wpAnyH_done (by kernel_rfl) ?_ _
        replace HP5 := Lib.hid (below_block HP5.out hb)
        replace HZ5 := Lib.hid (below_block HZ5.out hb)
        replace HG5 := Lib.hid (below_block HG5.out hb)
        replace HM5 := Lib.hid (HM5.out.below hb)
        replace HB5 := Lib.hid (bnext HB5.out hb)
        replace HS5 := Lib.hid (Nat.le_trans HS5.out hb.size)
        clear ha hb HIM
        cases rb
        · go_wp2
          refine wp_region_held_drew (S := fun w' => w'.heap[w.heap.size]? = some (Obj.cells (s9 (.slice ax J.length cx) (.slice ary lr cry) (.slice az lw cz) k c f v a n) 81 (0, 0)) ∧ Below w.heap.size w w') (by kernel_rfl) (by first | exact ⟨HP5.out, HB5.out⟩ | exact ⟨HP5.out, HB5.out.drew⟩) (fun _ => ?_)
          replace HP5 := Lib.hid (show wb.drew.heap[w.heap.size]? = some (Obj.cells (s9 (.slice ax J.length cx) (.slice ary lr cry) (.slice az lw cz) k c f v a n) 81 (0, 0)) from by first | exact HP5.out | (have hq : Below wb.heap.size wb wb.drew := (Below.refl _ wb).drew; exact below_block HP5.out hq))
          replace HZ5 := Lib.hid (show wb.drew.heap[w.heap.size + 1]? = some (Obj.cells (v4 (.slice none 0 0) 0 0 0) 41 (0, 0)) from by first | exact HZ5.out | (have hq : Below wb.heap.size wb wb.drew := (Below.refl _ wb).drew; exact below_block HZ5.out hq))
          replace HB5 := Lib.hid (show Below w.heap.size w wb.drew from by first | exact HB5.out | (have hq : Below wb.heap.size wb wb.drew := (Below.refl _ wb).drew; exact HB5.out.trans (hq.mono HB5.out.size)))
          replace HS5 := Lib.hid (show w.heap.size + 3 ≤ wb.drew.heap.size from by first | exact HS5.out | (have hq : Below wb.heap.size wb wb.drew := (Below.refl _ wb).drew; exact Nat.le_trans HS5.out hq.size))
          replace HM5 := Lib.hid (show OwnM (w.heap.size + 3) wb.drew (.slice sa slen sc) (MJ j) from HM5.out)
          replace HG5 := Lib.hid (show wb.drew.heap[w.heap.size + 1 + 1]? = some (Obj.cells (v4 (.slice sa slen sc) k c f) 41 (0, 0)) from HG5.out)
          have hS : wb.drew.heap[w.heap.size]? = some (Obj.cells (s9 (.slice ax J.length cx) (.slice ary lr cry) (.slice az lw cz) k c f v a n) 81 (0, 0)) ∧ Below w.heap.size w wb.drew := ⟨HP5.out, HB5.out⟩
          generalize wb.drew = wa at HP5 HZ5 HB5 HS5 HM5 HG5 hS ⊢
          refine takeH (i := 0) (v := ?_) rfl (by kernel_rfl) (by kernel_rfl) (by kernel_rfl) (fun _ _ _ h => h) (Or.inl ⟨by rfl, ?_⟩) (by assumption) ?_
          rotate_left
          · (intro w hSw; (try dsimp only at hSw); go_simp; first | done | with_reducible rfl)
          (try simp only [Act.put, List.setIfInBounds_toArray, List.set_cons_zero, List.set_cons_succ])
          refine takeH (i := 2) (v := ?_) rfl (by kernel_rfl) (by kernel_rfl) (by kernel_rfl) (fun _ _ _ h => h) (Or.inl ⟨by rfl, ?_⟩) (by assumption) ?_
          rotate_left
          · (intro w hSw; (try dsimp only at hSw); go_simp; first | done | with_reducible rfl)
          (try simp only [Act.put, List.setIfInBounds_toArray, List.set_cons_zero, List.set_cons_succ])
          refine takeH (i := 4) (v := ?_) rfl (by kernel_rfl) (by kernel_rfl) (by kernel_rfl) (fun _ _ _ h => h) (Or.inl ⟨by rfl, ?_⟩) (by assumption) ?_
          rotate_left
          · (intro w hSw; (try dsimp only at hSw); go_simp; first | done | with_reducible rfl)
          (try simp only [Act.put, List.setIfInBounds_toArray, List.set_cons_zero, List.set_cons_succ])
          refine takeH (i := 8) (v := ?_) rfl (by kernel_rfl) (by kernel_rfl) (by kernel_rfl) (fun _ _ _ h => h) (Or.inl ⟨by rfl, ?_⟩) (by assumption) ?_
          rotate_left
          · (intro w hSw; (try dsimp only at hSw); go_simp; first | done | with_reducible rfl)
          (try simp only [Act.put, List.setIfInBounds_toArray, List.set_cons_zero, List.set_cons_succ])
          refine takeH (i := 10) (v := ?_) rfl (by kernel_rfl) (by kernel_rfl) (by kernel_rfl) (fun _ _ _ h => h) (Or.inl ⟨by rfl, ?_⟩) (by assumption) ?_
          rotate_left
          · (intro w hSw; (try dsimp only at hSw); go_simp; first | done | with_reducible rfl)
          (try simp only [Act.put, List.setIfInBounds_toArray, List.set_cons_zero, List.set_cons_succ])
          refine takeH (i := 3) (v := ?_) rfl (by kernel_rfl) (by kernel_rfl) (by kernel_rfl) (fun _ _ _ h => h) (Or.inl ⟨by rfl, ?_⟩) (by assumption) ?_
          rotate_left
          · (intro w hSw; (try dsimp only at hSw); obtain ⟨⟨p0, p1, p2, p3, p4, p5, p6, p7, p8⟩, _⟩ := row9_at hSw.1; go_simp; first | done | with_reducible rfl)
          (try simp only [Act.put, List.setIfInBounds_toArray, List.set_cons_zero, List.set_cons_succ])
          refine takeH (i := 5) (v := ?_) rfl (by kernel_rfl) (by kernel_rfl) (by kernel_rfl) (fun _ _ _ h => h) (Or.inl ⟨by rfl, ?_⟩) (by assumption) ?_
          rotate_left
          · (intro w hSw; (try dsimp only at hSw); have hi := HHI.out; go_simp; first | done | with_reducible rfl)
          (try simp only [Act.put, List.setIfInBounds_toArray, List.set_cons_zero, List.set_cons_succ])
          refine takeH (i := 6) (v := ?_) rfl (by kernel_rfl) (by kernel_rfl) (by kernel_rfl) (fun _ _ _ h => h) (Or.inl ⟨by rfl, ?_⟩) (by assumption) ?_
          rotate_left
          · (intro w hSw; (try dsimp only at hSw); have hc := HCL.out w hSw.2; go_simp; first | done | with_reducible rfl)
          (try simp only [Act.put, List.setIfInBounds_toArray, List.set_cons_zero, List.set_cons_succ])
          refine takeH (i := 7) (v := ?_) rfl (by kernel_rfl) (by kernel_rfl) (by kernel_rfl) (fun _ _ _ h => h) (Or.inl ⟨by rfl, ?_⟩) (by assumption) ?_
          rotate_left
          · (intro w hSw; (try dsimp only at hSw); obtain ⟨⟨p0, p1, p2, p3, p4, p5, p6, p7, p8⟩, _⟩ := row9_at hSw.1; go_simp; first | done | with_reducible rfl)
          (try simp only [Act.put, List.setIfInBounds_toArray, List.set_cons_zero, List.set_cons_succ])
          refine takeH (i := 9) (v := ?_) rfl (by kernel_rfl) (by kernel_rfl) (by kernel_rfl) (fun _ _ _ h => h) (Or.inl ⟨by rfl, ?_⟩) (by assumption) ?_
          rotate_left
          · (intro w hSw; (try dsimp only at hSw); obtain ⟨⟨p0, p1, p2, p3, p4, p5, p6, p7, p8⟩, _⟩ := row9_at hSw.1; go_simp; first | done | with_reducible rfl)
          (try simp only [Act.put, List.setIfInBounds_toArray, List.set_cons_zero, List.set_cons_succ])
          refine takeH (i := 11) (v := ?_) rfl (by kernel_rfl) (by kernel_rfl) (by kernel_rfl) (fun _ _ _ h => h) (Or.inl ⟨by rfl, ?_⟩) (by assumption) ?_
          rotate_left
          · (intro w hSw; (try dsimp only at hSw); have hi := HHI.out; go_simp; first | done | with_reducible rfl)
          (try simp only [Act.put, List.setIfInBounds_toArray, List.set_cons_zero, List.set_cons_succ])
          refine takeH (i := 12) (v := ?_) rfl (by kernel_rfl) (by kernel_rfl) (by kernel_rfl) (fun _ _ _ h => h) (Or.inl ⟨by rfl, ?_⟩) (by assumption) ?_
          rotate_left
          · (intro w hSw; (try dsimp only at hSw); have hc := HCL.out w hSw.2; go_simp; first | done | with_reducible rfl)
          (try simp only [Act.put, List.setIfInBounds_toArray, List.set_cons_zero, List.set_cons_succ])
          refine wpAnyH_ready (rs := [1, 13]) (by kernel_rfl) (by simp) ?_
          refine stepH rfl (fun K hK => ?_) (stepH rfl (fun K hK => ?_) AllReadyH.nil)
          · obtain ⟨⟨q0, q1, q2, q3⟩, _⟩ := row4_at (HG5.out)
            go_simp
            refine hK.out _ _ (⟨HP5.out, HB5.out⟩) (fun _ => ?_)
            clear hK K
            (try simp only [Act.put, List.setIfInBounds_toArray, List.set_cons_zero, List.set_cons_succ])
            clear q0 q1 q2 q3
            refine wpAnyH_ready (rs := [13]) (by kernel_rfl) (by simp) ?_
            refine stepH rfl (fun K hK => ?_) AllReadyH.nil
            go_simp
            refine (HWM.out wa HB5.out).mono ?_
            rintro e waq ⟨rfl, hq⟩
            replace HP5 := Lib.hid (show waq.heap[w.heap.size]? = some (Obj.cells (s9 (.slice ax J.length cx) (.slice ary lr cry) (.slice az lw cz) k c f v a n) 81 (0, 0)) from below_block HP5.out hq)
            replace HZ5 := Lib.hid (show waq.heap[w.heap.size + 1]? = some (Obj.cells (v4 (.slice none 0 0) 0 0 0) 41 (0, 0)) from below_block HZ5.out hq)
            replace HB5 := Lib.hid (show Below w.heap.size w waq from HB5.out.trans (hq.mono HB5.out.size))
            replace HS5 := Lib.hid (show w.heap.size + 3 ≤ waq.heap.size from Nat.le_trans HS5.out hq.size)
            replace HM5 := Lib.hid (HM5.out.below hq)
            replace HG5 := Lib.hid (below_block HG5.out hq)
            replace hS : waq.heap[w.heap.size]? = some (Obj.cells (s9 (.slice ax J.length cx) (.slice ary lr cry) (.slice az lw cz) k c f v a n) 81 (0, 0)) ∧ Below w.heap.size w waq := ⟨HP5.out, HB5.out⟩
            clear hq
            go_wp2_with fail
            refine hK.out _ _ (⟨HP5.out, HB5.out⟩) (fun _ => ?_)
            clear hK K
            (try simp only [Act.put, List.setIfInBounds_toArray, List.set_cons_zero, List.set_cons_succ])
            refine takeH (i := 14) (v := ?_) rfl (by kernel_rfl) (by kernel_rfl) (by kernel_rfl) (fun _ _ _ h => h) (Or.inl ⟨by rfl, ?_⟩) (by assumption) ?_
            rotate_left
            · (intro w hSw; (try dsimp only at hSw); go_simp; first | done | with_reducible rfl)
            (try simp only [Act.put, List.setIfInBounds_toArray, List.set_cons_zero, List.set_cons_succ])
            refine wpAnyH_ready (rs := [15]) (by kernel_rfl) (by simp) ?_
            refine stepH rfl (fun K hK => ?_) AllReadyH.nil
            go_simp
            refine hK.out _ _ (⟨(by have hq := below_fresh waq (.cells #[.int .i64 m, .int .i64 WT] 63); exact below_block HP5.out hq), (by have hq := below_fresh waq (.cells #[.int .i64 m, .int .i64 WT] 63); exact HB5.out.trans (hq.mono HB5.out.size))⟩) (fun _ => ?_)
            clear hK K
            (try simp only [Act.put, List.setIfInBounds_toArray, List.set_cons_zero, List.set_cons_succ])
            refine wpAnyH_ready (rs := [16]) (by kernel_rfl) (by simp) ?_
            refine stepH rfl (fun K hK => ?_) AllReadyH.nil
            refine step_appG1 memE (m, WT) rfl (.tmp 31) (.tmp 45) rfl (by rfl) HM5.out (by rfl) HLN.out HS5.out ?_
            intro vy wy hoy hb hk
            obtain ⟨ay, ly, cy, hvy⟩ : ∃ a l c, vy = .slice a l c := (by obtain ⟨a, c, h, _⟩ := hoy.rd.shape; exact ⟨a, _, c, h⟩)
            subst hvy
            replace HP5 := Lib.hid (show wy.heap[w.heap.size]? = some (Obj.cells (s9 (.slice ax J.length cx) (.slice ary lr cry) (.slice az lw cz) k c f v a n) 81 (0, 0)) from hk.at HP5.out (by decide))
            replace HZ5 := Lib.hid (show wy.heap[w.heap.size + 1]? = some (Obj.cells (v4 (.slice none 0 0) 0 0 0) 41 (0, 0)) from hk.at HZ5.out (by decide))
            replace HB5 := Lib.hid (show Below w.heap.size w wy from HB5.out.trans (hb.mono (by omega)))
            replace HS5 := Lib.hid (show w.heap.size + 3 ≤ wy.heap.size from Nat.le_trans HS5.out hb.size)
            replace HG5 := Lib.hid (hk.at HG5.out (by decide))
            replace HM5 := Lib.hid hoy
            replace hS : wy.heap[w.heap.size]? = some (Obj.cells (s9 (.slice ax J.length cx) (.slice ary lr cry) (.slice az lw cz) k c f v a n) 81 (0, 0)) ∧ Below w.heap.size w wy := ⟨HP5.out, HB5.out⟩
            clear hoy hb hk
            refine hK.out _ _ (⟨HP5.out, HB5.out⟩) (fun _ => ?_)
            clear hK K
            (try simp only [Act.put, List.setIfInBounds_toArray, List.set_cons_zero, List.set_cons_succ])
            refine takeH (i := 17) (v := ?_) rfl (by kernel_rfl) (by kernel_rfl) (by kernel_rfl) (fun _ _ _ h => h) (Or.inl ⟨by rfl, ?_⟩) (by assumption) ?_
            rotate_left
            · (intro w hSw; (try dsimp only at hSw); go_simp; first | done | with_reducible rfl)
            (try simp only [Act.put, List.setIfInBounds_toArray, List.set_cons_zero, List.set_cons_succ])
            obtain ⟨⟨q0, q1, q2, q3⟩, g0, g1, g2, g3⟩ := row4_at HG5.out
            have hg8 : (wy.setCell ⟨w.heap.size + 1 + 1, 0, none⟩ (.slice ay ly cy)).heap[w.heap.size + 1 + 1]? = some (Obj.cells (v4 (.slice ay ly cy) k c f) 41 (0, 0)) := heap_setCell_same wy _ 0 _ _ _ HG5.out
            have ho : Only (w.heap.size + 1 + 1) wy (wy.setCell ⟨w.heap.size + 1 + 1, 0, none⟩ (.slice ay ly cy)) := Only.set 0 _
            replace HM5 := Lib.hid (ownG_only HM5.out HG5.out (by decide) ho)
            replace HP5 := Lib.hid (show (wy.setCell ⟨w.heap.size + 1 + 1, 0, none⟩ (.slice ay ly cy)).heap[w.heap.size]? = some (Obj.cells (s9 (.slice ax J.length cx) (.slice ary lr cry) (.slice az lw cz) k c f v a n) 81 (0, 0)) from ho.at HP5.out (by omega))
            replace HZ5 := Lib.hid (show (wy.setCell ⟨w.heap.size + 1 + 1, 0, none⟩ (.slice ay ly cy)).heap[w.heap.size + 1]? = some (Obj.cells (v4 (.slice none 0 0) 0 0 0) 41 (0, 0)) from ho.at HZ5.out (by omega))
            replace HB5 := Lib.hid (show Below w.heap.size w (wy.setCell ⟨w.heap.size + 1 + 1, 0, none⟩ (.slice ay ly cy)) from HB5.out.trans (ho.below (by omega) HB5.out.size))
            replace HS5 := Lib.hid (show w.heap.size + 3 ≤ (wy.setCell ⟨w.heap.size + 1 + 1, 0, none⟩ (.slice ay ly cy)).heap.size from Nat.le_trans HS5.out ho.size)
            replace HG5 := Lib.hid hg8
            replace hS : (wy.setCell ⟨w.heap.size + 1 + 1, 0, none⟩ (.slice ay ly cy)).heap[w.heap.size]? = some (Obj.cells (s9 (.slice ax J.length cx) (.slice ary lr cry) (.slice az lw cz) k c f v a n) 81 (0, 0)) ∧ Below w.heap.size w (wy.setCell ⟨w.heap.size + 1 + 1, 0, none⟩ (.slice ay ly cy)) := ⟨HP5.out, HB5.out⟩
            clear hg8 ho
            refine wpAnyH_ready (rs := [18]) (by kernel_rfl) (by simp) ?_
            refine stepH rfl (fun K hK => ?_) AllReadyH.nil
            go_simp
            refine hK.out _ _ (⟨HP5.out, HB5.out⟩) (fun _ => ?_)
            clear hK K
            (try simp only [Act.put, List.setIfInBounds_toArray, List.set_cons_zero, List.set_cons_succ])
            refine wpAnyH_done (by kernel_rfl) ?_ _
            generalize (wy.setCell ⟨w.heap.size + 1 + 1, 0, none⟩ (.slice ay ly cy)) = wz at HP5 HZ5 HB5 HS5 HM5 HG5 hS ⊢
            clear hS q0 q1 q2 q3 g0 g1 g2 g3
            go_wp2
            go_roundw
            case rel => exact ⟨j + 1, _, by omega, by go_num, HP5, HZ5, HG5, Lib.hid (by rw [HSN.out]; exact HM5.out), HB5, HS5⟩
            case measure => simp [intOf]; omega
          · go_simp
            refine (HWM.out wa HB5.out).mono ?_
            rintro e waq ⟨rfl, hq⟩
            replace HP5 := Lib.hid (show waq.heap[w.heap.size]? = some (Obj.cells (s9 (.slice ax J.length cx) (.slice ary lr cry) (.slice az lw cz) k c f v a n) 81 (0, 0)) from below_block HP5.out hq)
            replace HZ5 := Lib.hid (show waq.heap[w.heap.size + 1]? = some (Obj.cells (v4 (.slice none 0 0) 0 0 0) 41 (0, 0)) from below_block HZ5.out hq)
            replace HB5 := Lib.hid (show Below w.heap.size w waq from HB5.out.trans (hq.mono HB5.out.size))
            replace HS5 := Lib.hid (show w.heap.size + 3 ≤ waq.heap.size from Nat.le_trans HS5.out hq.size)
            replace HM5 := Lib.hid (HM5.out.below hq)
            replace HG5 := Lib.hid (below_block HG5.out hq)
            replace hS : waq.heap[w.heap.size]? = some (Obj.cells (s9 (.slice ax J.length cx) (.slice ary lr cry) (.slice az lw cz) k c f v a n) 81 (0, 0)) ∧ Below w.heap.size w waq := ⟨HP5.out, HB5.out⟩
            clear hq
            go_wp2_with fail
            refine hK.out _ _ (⟨HP5.out, HB5.out⟩) (fun _ => ?_)
            clear hK K
            (try simp only [Act.put, List.setIfInBounds_toArray, List.set_cons_zero, List.set_cons_succ])
            refine takeH (i := 14) (v := ?_) rfl (by kernel_rfl) (by kernel_rfl) (by kernel_rfl) (fun _ _ _ h => h) (Or.inl ⟨by rfl, ?_⟩) (by assumption) ?_
            rotate_left
            · (intro w hSw; (try dsimp only at hSw); go_simp; first | done | with_reducible rfl)
            (try simp only [Act.put, List.setIfInBounds_toArray, List.set_cons_zero, List.set_cons_succ])
            refine wpAnyH_ready (rs := [1, 15]) (by kernel_rfl) (by simp) ?_
            refine stepH rfl (fun K hK => ?_) (stepH rfl (fun K hK => ?_) AllReadyH.nil)
            · obtain ⟨⟨q0, q1, q2, q3⟩, _⟩ := row4_at (HG5.out)
              go_simp
              refine hK.out _ _ (⟨HP5.out, HB5.out⟩) (fun _ => ?_)
              clear hK K
              (try simp only [Act.put, List.setIfInBounds_toArray, List.set_cons_zero, List.set_cons_succ])
              clear q0 q1 q2 q3
              refine wpAnyH_ready (rs := [15]) (by kernel_rfl) (by simp) ?_
              refine stepH rfl (fun K hK => ?_) AllReadyH.nil
              go_simp
              refine hK.out _ _ (⟨(by have hq := below_fresh waq (.cells #[.int .i64 m, .int .i64 WT] 63); exact below_block HP5.out hq), (by have hq := below_fresh waq (.cells #[.int .i64 m, .int .i64 WT] 63); exact HB5.out.trans (hq.mono HB5.out.size))⟩) (fun _ => ?_)
              clear hK K
              (try simp only [Act.put, List.setIfInBounds_toArray, List.set_cons_zero, List.set_cons_succ])
              refine wpAnyH_ready (rs := [16]) (by kernel_rfl) (by simp) ?_
              refine stepH rfl (fun K hK => ?_) AllReadyH.nil
              refine step_appG1 memE (m, WT) rfl (.tmp 31) (.tmp 45) rfl (by rfl) HM5.out (by rfl) HLN.out HS5.out ?_
              intro vy wy hoy hb hk
              obtain ⟨ay, ly, cy, hvy⟩ : ∃ a l c, vy = .slice a l c := (by obtain ⟨a, c, h, _⟩ := hoy.rd.shape; exact ⟨a, _, c, h⟩)
              subst hvy
              replace HP5 := Lib.hid (show wy.heap[w.heap.size]? = some (Obj.cells (s9 (.slice ax J.length cx) (.slice ary lr cry) (.slice az lw cz) k c f v a n) 81 (0, 0)) from hk.at HP5.out (by decide))
              replace HZ5 := Lib.hid (show wy.heap[w.heap.size + 1]? = some (Obj.cells (v4 (.slice none 0 0) 0 0 0) 41 (0, 0)) from hk.at HZ5.out (by decide))
              replace HB5 := Lib.hid (show Below w.heap.size w wy from HB5.out.trans (hb.mono (by omega)))
              replace HS5 := Lib.hid (show w.heap.size + 3 ≤ wy.heap.size from Nat.le_trans HS5.out hb.size)
              replace HG5 := Lib.hid (hk.at HG5.out (by decide))
              replace HM5 := Lib.hid hoy
              replace hS : wy.heap[w.heap.size]? = some (Obj.cells (s9 (.slice ax J.length cx) (.slice ary lr cry) (.slice az lw cz) k c f v a n) 81 (0, 0)) ∧ Below w.heap.size w wy := ⟨HP5.out, HB5.out⟩
              clear hoy hb hk
              refine hK.out _ _ (⟨HP5.out, HB5.out⟩) (fun _ => ?_)
              clear hK K
              (try simp only [Act.put, List.setIfInBounds_toArray, List.set_cons_zero, List.set_cons_succ])
              refine takeH (i := 17) (v := ?_) rfl (by kernel_rfl) (by kernel_rfl) (by kernel_rfl) (fun _ _ _ h => h) (Or.inl ⟨by rfl, ?_⟩) (by assumption) ?_
              rotate_left
              · (intro w hSw; (try dsimp only at hSw); go_simp; first | done | with_reducible rfl)
              (try simp only [Act.put, List.setIfInBounds_toArray, List.set_cons_zero, List.set_cons_succ])
              obtain ⟨⟨q0, q1, q2, q3⟩, g0, g1, g2, g3⟩ := row4_at HG5.out
              have hg8 : (wy.setCell ⟨w.heap.size + 1 + 1, 0, none⟩ (.slice ay ly cy)).heap[w.heap.size + 1 + 1]? = some (Obj.cells (v4 (.slice ay ly cy) k c f) 41 (0, 0)) := heap_setCell_same wy _ 0 _ _ _ HG5.out
              have ho : Only (w.heap.size + 1 + 1) wy (wy.setCell ⟨w.heap.size + 1 + 1, 0, none⟩ (.slice ay ly cy)) := Only.set 0 _
              replace HM5 := Lib.hid (ownG_only HM5.out HG5.out (by decide) ho)
              replace HP5 := Lib.hid (show (wy.setCell ⟨w.heap.size + 1 + 1, 0, none⟩ (.slice ay ly cy)).heap[w.heap.size]? = some (Obj.cells (s9 (.slice ax J.length cx) (.slice ary lr cry) (.slice az lw cz) k c f v a n) 81 (0, 0)) from ho.at HP5.out (by omega))
              replace HZ5 := Lib.hid (show (wy.setCell ⟨w.heap.size + 1 + 1, 0, none⟩ (.slice ay ly cy)).heap[w.heap.size + 1]? = some (Obj.cells (v4 (.slice none 0 0) 0 0 0) 41 (0, 0)) from ho.at HZ5.out (by omega))
              replace HB5 := Lib.hid (show Below w.heap.size w (wy.setCell ⟨w.heap.size + 1 + 1, 0, none⟩ (.slice ay ly cy)) from HB5.out.trans (ho.below (by omega) HB5.out.size))
              replace HS5 := Lib.hid (show w.heap.size + 3 ≤ (wy.setCell ⟨w.heap.size + 1 + 1, 0, none⟩ (.slice ay ly cy)).heap.size from Nat.le_trans HS5.out ho.size)
              replace HG5 := Lib.hid hg8
              replace hS : (wy.setCell ⟨w.heap.size + 1 + 1, 0, none⟩ (.slice ay ly cy)).heap[w.heap.size]? = some (Obj.cells (s9 (.slice ax J.length cx) (.slice ary lr cry) (.slice az lw cz) k c f v a n) 81 (0, 0)) ∧ Below w.heap.size w (wy.setCell ⟨w.heap.size + 1 + 1, 0, none⟩ (.slice ay ly cy)) := ⟨HP5.out, HB5.out⟩
              clear hg8 ho
              refine wpAnyH_ready (rs := [18]) (by kernel_rfl) (by simp) ?_
              refine stepH rfl (fun K hK => ?_) AllReadyH.nil
              go_simp
              refine hK.out _ _ (⟨HP5.out, HB5.out⟩) (fun _ => ?_)
              clear hK K
              (try simp only [Act.put, List.setIfInBounds_toArray, List.set_cons_zero, List.set_cons_succ])
              refine wpAnyH_done (by kernel_rfl) ?_ _
              generalize (wy.setCell ⟨w.heap.size + 1 + 1, 0, none⟩ (.slice ay ly cy)) = wz at HP5 HZ5 HB5 HS5 HM5 HG5 hS ⊢
              clear hS q0 q1 q2 q3 g0 g1 g2 g3
              go_wp2
              go_roundw
              case rel => exact ⟨j + 1, _, by omega, by go_num, HP5, HZ5, HG5, Lib.hid (by rw [HSN.out]; exact HM5.out), HB5, HS5⟩
              case measure => simp [intOf]; omega
            · go_simp
              refine hK.out _ _ (⟨(by have hq := below_fresh waq (.cells #[.int .i64 m, .int .i64 WT] 63); exact below_block HP5.out hq), (by have hq := below_fresh waq (.cells #[.int .i64 m, .int .i64 WT] 63); exact HB5.out.trans (hq.mono HB5.out.size))⟩) (fun _ => ?_)
              clear hK K
              (try simp only [Act.put, List.setIfInBounds_toArray, List.set_cons_zero, List.set_cons_succ])
              refine wpAnyH_ready (rs := [1]) (by kernel_rfl) (by simp) ?_
              refine stepH rfl (fun K hK => ?_) AllReadyH.nil
              obtain ⟨⟨q0, q1, q2, q3⟩, _⟩ := row4_at (below_block HG5.out (below_fresh waq (.cells #[.int .i64 m, .int .i64 WT] 63)))
              go_simp
              refine hK.out _ _ (⟨(by have hq := below_fresh waq (.cells #[.int .i64 m, .int .i64 WT] 63); exact below_block HP5.out hq), (by have hq := below_fresh waq (.cells #[.int .i64 m, .int .i64 WT] 63); exact HB5.out.trans (hq.mono HB5.out.size))⟩) (fun _ => ?_)
              clear hK K
              (try simp only [Act.put, List.setIfInBounds_toArray, List.set_cons_zero, List.set_cons_succ])
              clear q0 q1 q2 q3
              refine wpAnyH_ready (rs := [16]) (by kernel_rfl) (by simp) ?_
              refine stepH rfl (fun K hK => ?_) AllReadyH.nil
              refine step_appG1 memE (m, WT) rfl (.tmp 31) (.tmp 45) rfl (by rfl) HM5.out (by rfl) HLN.out HS5.out ?_
              intro vy wy hoy hb hk
              obtain ⟨ay, ly, cy, hvy⟩ : ∃ a l c, vy = .slice a l c := (by obtain ⟨a, c, h, _⟩ := hoy.rd.shape; exact ⟨a, _, c, h⟩)
              subst hvy
              replace HP5 := Lib.hid (show wy.heap[w.heap.size]? = some (Obj.cells (s9 (.slice ax J.length cx) (.slice ary lr cry) (.slice az lw cz) k c f v a n) 81 (0, 0)) from hk.at HP5.out (by decide))
              replace HZ5 := Lib.hid (show wy.heap[w.heap.size + 1]? = some (Obj.cells (v4 (.slice none 0 0) 0 0 0) 41 (0, 0)) from hk.at HZ5.out (by decide))
              replace HB5 := Lib.hid (show Below w.heap.size w wy from HB5.out.trans (hb.mono (by omega)))
              replace HS5 := Lib.hid (show w.heap.size + 3 ≤ wy.heap.size from Nat.le_trans HS5.out hb.size)
              replace HG5 := Lib.hid (hk.at HG5.out (by decide))
              replace HM5 := Lib.hid hoy
              replace hS : wy.heap[w.heap.size]? = some (Obj.cells (s9 (.slice ax J.length cx) (.slice ary lr cry) (.slice az lw cz) k c f v a n) 81 (0, 0)) ∧ Below w.heap.size w wy := ⟨HP5.out, HB5.out⟩
              clear hoy hb hk
              refine hK.out _ _ (⟨HP5.out, HB5.out⟩) (fun _ => ?_)
              clear hK K
              (try simp only [Act.put, List.setIfInBounds_toArray, List.set_cons_zero, List.set_cons_succ])
              refine takeH (i := 17) (v := ?_) rfl (by kernel_rfl) (by kernel_rfl) (by kernel_rfl) (fun _ _ _ h => h) (Or.inl ⟨by rfl, ?_⟩) (by assumption) ?_
              rotate_left
              · (intro w hSw; (try dsimp only at hSw); go_simp; first | done | with_reducible rfl)
              (try simp only [Act.put, List.setIfInBounds_toArray, List.set_cons_zero, List.set_cons_succ])
              obtain ⟨⟨q0, q1, q2, q3⟩, g0, g1, g2, g3⟩ := row4_at HG5.out
              have hg8 : (wy.setCell ⟨w.heap.size + 1 + 1, 0, none⟩ (.slice ay ly cy)).heap[w.heap.size + 1 + 1]? = some (Obj.cells (v4 (.slice ay ly cy) k c f) 41 (0, 0)) := heap_setCell_same wy _ 0 _ _ _ HG5.out
              have ho : Only (w.heap.size + 1 + 1) wy (wy.setCell ⟨w.heap.size + 1 + 1, 0, none⟩ (.slice ay ly cy)) := Only.set 0 _
              replace HM5 := Lib.hid (ownG_only HM5.out HG5.out (by decide) ho)
              replace HP5 := Lib.hid (show (wy.setCell ⟨w.heap.size + 1 + 1, 0, none⟩ (.slice ay ly cy)).heap[w.heap.size]? = some (Obj.cells (s9 (.slice ax J.length cx) (.slice ary lr cry) (.slice az lw cz) k c f v a n) 81 (0, 0)) from ho.at HP5.out (by omega))
              replace HZ5 := Lib.hid (show (wy.setCell ⟨w.heap.size + 1 + 1, 0, none⟩ (.slice ay ly cy)).heap[w.heap.size + 1]? = some (Obj.cells (v4 (.slice none 0 0) 0 0 0) 41 (0, 0)) from ho.at HZ5.out (by omega))
              replace HB5 := Lib.hid (show Below w.heap.size w (wy.setCell ⟨w.heap.size + 1 + 1, 0, none⟩ (.slice ay ly cy)) from HB5.out.trans (ho.below (by omega) HB5.out.size))
              replace HS5 := Lib.hid (show w.heap.size + 3 ≤ (wy.setCell ⟨w.heap.size + 1 + 1, 0, none⟩ (.slice ay ly cy)).heap.size from Nat.le_trans HS5.out ho.size)
              replace HG5 := Lib.hid hg8
              replace hS : (wy.setCell ⟨w.heap.size + 1 + 1, 0, none⟩ (.slice ay ly cy)).heap[w.heap.size]? = some (Obj.cells (s9 (.slice ax J.length cx) (.slice ary lr cry) (.slice az lw cz) k c f v a n) 81 (0, 0)) ∧ Below w.heap.size w (wy.setCell ⟨w.heap.size + 1 + 1, 0, none⟩ (.slice ay ly cy)) := ⟨HP5.out, HB5.out⟩
              clear hg8 ho
              refine wpAnyH_ready (rs := [18]) (by kernel_rfl) (by simp) ?_
              refine stepH rfl (fun K hK => ?_) AllReadyH.nil
              go_simp
              refine hK.out _ _ (⟨HP5.out, HB5.out⟩) (fun _ => ?_)
              clear hK K
              (try simp only [Act.put, List.setIfInBounds_toArray, List.set_cons_zero, List.set_cons_succ])
              refine wpAnyH_done (by kernel_rfl) ?_ _
              generalize (wy.setCell ⟨w.heap.size + 1 + 1, 0, none⟩ (.slice ay ly cy)) = wz at HP5 HZ5 HB5 HS5 HM5 HG5 hS ⊢
              clear hS q0 q1 q2 q3 g0 g1 g2 g3
              go_wp2
              go_roundw
              case rel => exact ⟨j + 1, _, by omega, by go_num, HP5, HZ5, HG5, Lib.hid (by rw [HSN.out]; exact HM5.out), HB5, HS5⟩
              case measure => simp [intOf]; omega
        · replace HM5 := Lib.hid (show OwnM (w.heap.size + 3) wb (.slice sa slen sc) (MJ (j + 1)) by rw [HSN.out]; exact HM5.out)
          go_wp2
          go_roundw
          case rel => exact ⟨j + 1, _, by omega, by go_num, HP5, HZ5, HG5, HM5, HB5, HS5⟩
          case measure => simp [intOf]; omega
      · have hq : ¬ ((j : Int) < (J.length : Int)) := by omega
        obtain rfl : j = J.length := by omega
        rw [HALL.out] at HM5
        obtain ⟨⟨p0, p1, p2, p3, p4, p5, p6, p7, p8⟩, _⟩ := row9_at HP5.out
        obtain ⟨⟨y0, y1, y2, y3⟩, _⟩ := row4_at HG5.out
        obtain ⟨⟨z0, z1, z2, z3⟩, f0, f1, f2, f3⟩ := row4_at HZ5.out
        go_wp2
        have hput := row4_put HZ5.out (.slice sa slen sc) (.int .i64 k) (.int .i64 c) (.int .i64 f) w.heap.size (by omega)
        have hon := onlyc4 (w := wr) (g := w.heap.size + 1) (.slice sa slen sc) (.int .i64 k) (.int .i64 c) (.int .i64 f)
        exact rview_ret rfl hput.1 rfl ⟨.slice sa slen sc, by rw [HK.out], (ownG_only HM5.out HZ5.out (by decide) hon).mono (by omega), HB5.out.trans hput.2⟩
  · have hz0 : k = 0 ∧ c = 0 ∧ f = 0 := by have := HRZ.out; simpa using this.symm
    have HK := Lib.hid (show vk = 1 from HVK.out)
    have HC := Lib.hid (show c = 0 from hz0.2.1)
    have HF := Lib.hid (show f = 0 from hz0.2.2)
    clear hz0
    go_upto_region 4 with fail
    clear heq p0 p1 p2 p3 p4 p5 p6 p7 p8 q0 q1 q2 q3 g0 g1 g2 g3 HVK HRZ HW3
    have t1 := heap_setCell_same w3 (w.heap.size + 1 + 1) 1 _ _ (.int .i64 1) HG5.out
    have t2 := heap_setCell_same _ (w.heap.size + 1 + 1) 2 _ _ (.int .i64 0) t1
    have t3 : (((w3.setCell ⟨w.heap.size + 1 + 1, 1, none⟩ (.int .i64 1)).setCell ⟨w.heap.size + 1 + 1, 2, none⟩ (.int .i64 0)).setCell ⟨w.heap.size + 1 + 1, 3, none⟩ (.int .i64 0)).heap[w.heap.size + 1 + 1]? = some (.cells (v4 (.slice none 0 0) 1 0 0) 41 (0, 0)) := heap_setCell_same _ (w.heap.size + 1 + 1) 3 _ _ (.int .i64 0) t2
    have ho : Only (w.heap.size + 1 + 1) w3 (((w3.setCell ⟨w.heap.size + 1 + 1, 1, none⟩ (.int .i64 1)).setCell ⟨w.heap.size + 1 + 1, 2, none⟩ (.int .i64 0)).setCell ⟨w.heap.size + 1 + 1, 3, none⟩ (.int .i64 0)) := ((Only.set 1 _).trans (Only.set 2 _)).trans (Only.set 3 _)
    clear t1 t2
    replace HP5 := Lib.hid (ho.at HP5.out (by omega))
    replace HZ5 := Lib.hid (ho.at HZ5.out (by omega))
    replace HM5 := Lib.hid (ownG_only HM5.out HG5.out (by decide) ho)
    replace HB5 := Lib.hid (HB5.out.trans (ho.below (by omega) HB5.out.size))
    replace HG5 := Lib.hid t3
    have HS3 := Lib.hid (show w.heap.size + 3 ≤ (((w3.setCell ⟨w.heap.size + 1 + 1, 1, none⟩ (.int .i64 1)).setCell ⟨w.heap.size + 1 + 1, 2, none⟩ (.int .i64 0)).setCell ⟨w.heap.size + 1 + 1, 3, none⟩ (.int .i64 0)).heap.size by have := HSZ.out; have := ho.size; omega)
    clear t3 ho
    generalize (((w3.setCell ⟨w.heap.size + 1 + 1, 1, none⟩ (.int .i64 1)).setCell ⟨w.heap.size + 1 + 1, 2, none⟩ (.int .i64 0)).setCell ⟨w.heap.size + 1 + 1, 3, none⟩ (.int .i64 0)) = w5 at HP5 HZ5 HG5 HB5 HM5 HS3 ⊢
    go_wp2
    go_loopw [4] (fun i wr => ∃ (j : Nat) (sl : Value), j ≤ J.length ∧ i = .int .i64 j ∧ Hid (wr.heap[w.heap.size]? = some (.cells (s9 (.slice ax J.length cx) (.slice ary lr cry) (.slice az lw cz) k c f v a n) 81 (0, 0))) ∧ Hid (wr.heap[w.heap.size + 1]? = some (.cells (v4 (.slice none 0 0) 0 0 0) 41 (0, 0))) ∧ Hid (wr.heap[w.heap.size + 1 + 1]? = some (.cells (v4 sl 1 0 0) 41 (0, 0))) ∧ Hid (OwnM (w.heap.size + 3) wr sl (MJ j)) ∧ Hid (Below w.heap.size w wr) ∧ Hid (w.heap.size + 3 ≤ wr.heap.size)) (fun i _ => J.length - (intOf i).toNat)
    case atStart => exact ⟨0, _, Nat.zero_le _, rfl, HP5, HZ5, HG5, HM5, HB5, HS3⟩
    case round =>
      clear HP5 HZ5 HG5 HM5 HB5 HS3
      obtain ⟨j, sl, hj, rfl, HP5, HZ5, HG5, HM5, HB5, HS5⟩ := hrel
      obtain ⟨sa, slen, sc, hvs⟩ : ∃ a l c, sl = .slice a l c := by obtain ⟨a, c, h, _⟩ := HM5.out.rd.shape; exact ⟨a, _, c, h⟩
      subst hvs
      by_cases hlt : j < J.length
      · have hq : (j : Int) < (J.length : Int) := by omega
        have hjb : (j : Int) ≤ 1000000 := by have := HLJ.out; omega
        obtain ⟨m, hx⟩ : ∃ m : Int, J[j]? = some m := ⟨_, List.getElem?_eq_getElem hlt⟩
        obtain ⟨o1, oo, hi, hob, c0⟩ := atI HJL.out j m hx
        have HHI := Lib.hid hi
        have HCL := Lib.hid (fun w' (b : Below w.heap.size w w') => (b.cell hob).trans c0)
        have HSN := Lib.hid (HSUC.out j m hx)
        have HLN := Lib.hid (show (MJ j).length ≤ 1073741824 by have := HMLN.out j; have := HLJ.out; omega)
        have HWM := Lib.hid (fun w' (b : Below w.heap.size w w') => HWT.out w' b m)
        have HIM := Lib.hid (fun w' (b : Below w.heap.size w w') => HIN.out w' b m)
        generalize WO m = WT at HSN HWM
        generalize RC m = rb at HSN HIM
        obtain ⟨⟨p0, p1, p2, p3, p4, p5, p6, p7, p8⟩, _⟩ := row9_at HP5.out
        clear hx hi hob c0
        go_wp2
        clear p0 p1 p2 p3 p4 p5 p6 p7 p8
        refine wp_region_held_drew (S := fun w' => Below wr.heap.size wr w') (by kernel_rfl) ((Below.refl _ _).drew) (fun ha => ?_)
        replace ha : Below wr.heap.size wr wr.drew := (Below.refl _ _).drew
        generalize wr.drew = wa at ha ⊢
        refine takeH (i := 0) (v := ?_) rfl (by kernel_rfl) (by kernel_rfl) (by kernel_rfl) (fun _ _ _ h => h) (Or.inl ⟨by rfl, ?_⟩) (by assumption) ?_
        rotate_left
        · (intro w hSw; (try dsimp only at hSw); go_simp; first | done | with_reducible rfl)
        (try simp only [Act.put, List.setIfInBounds_toArray, List.set_cons_zero, List.set_cons_succ])
        refine takeH (i := 1) (v := ?_) rfl (by kernel_rfl) (by kernel_rfl) (by kernel_rfl) (fun _ _ _ h => h) (Or.inl ⟨by rfl, ?_⟩) (by assumption) ?_
        rotate_left
        · (intro w hSw; (try dsimp only at hSw); obtain ⟨⟨p0, p1, p2, p3, p4, p5, p6, p7, p8⟩, _⟩ := row9_at (below_block HP5.out hSw); go_simp; first | done | with_reducible rfl)
        (try simp only [Act.put, List.setIfInBounds_toArray, List.set_cons_zero, List.set_cons_succ])
        refine takeH (i := 2) (v := ?_) rfl (by kernel_rfl) (by kernel_rfl) (by kernel_rfl) (fun _ _ _ h => h) (Or.inl ⟨by rfl, ?_⟩) (by assumption) ?_
        rotate_left
        · (intro w hSw; (try dsimp only at hSw); go_simp; first | done | with_reducible rfl)
        (try simp only [Act.put, List.setIfInBounds_toArray, List.set_cons_zero, List.set_cons_succ])
        refine takeH (i := 3) (v := ?_) rfl (by kernel_rfl) (by kernel_rfl) (by kernel_rfl) (fun _ _ _ h => h) (Or.inl ⟨by rfl, ?_⟩) (by assumption) ?_
        rotate_left
        · (intro w hSw; (try dsimp only at hSw); obtain ⟨⟨p0, p1, p2, p3, p4, p5, p6, p7, p8⟩, _⟩ := row9_at (below_block HP5.out hSw); go_simp; first | done | with_reducible rfl)
        (try simp only [Act.put, List.setIfInBounds_toArray, List.set_cons_zero, List.set_cons_succ])
        refine takeH (i := 4) (v := ?_) rfl (by kernel_rfl) (by kernel_rfl) (by kernel_rfl) (fun _ _ _ h => h) (Or.inl ⟨by rfl, ?_⟩) (by assumption) ?_
        rotate_left
        · (intro w hSw; (try dsimp only at hSw); go_simp; first | done | with_reducible rfl)
        (try simp only [Act.put, List.setIfInBounds_toArray, List.set_cons_zero, List.set_cons_succ])
        refine takeH (i := 5) (v := ?_) rfl (by kernel_rfl) (by kernel_rfl) (by kernel_rfl) (fun _ _ _ h => h) (Or.inl ⟨by rfl, ?_⟩) (by assumption) ?_
        rotate_left
        · (intro w hSw; (try dsimp only at hSw); have hi := HHI.out; go_simp; first | done | with_reducible rfl)
        (try simp only [Act.put, List.setIfInBounds_toArray, List.set_cons_zero, List.set_cons_succ])
        refine takeH (i := 6) (v := ?_) rfl (by kernel_rfl) (by kernel_rfl) (by kernel_rfl) (fun _ _ _ h => h) (Or.inl ⟨by rfl, ?_⟩) (by assumption) ?_
        rotate_left
        · (intro w hSw; (try dsimp only at hSw); have hc := HCL.out w (bnext HB5.out hSw); go_simp; first | done | with_reducible rfl)
        (try simp only [Act.put, List.setIfInBounds_toArray, List.set_cons_zero, List.set_cons_succ])
        refine wpAnyH_ready (rs := [7]) (by kernel_rfl) (by simp) ?_
        refine stepH rfl (fun K hK => ?_) AllReadyH.nil
        go_simp
        refine (HIM.out wa (bnext HB5.out ha)).mono ?_
        rintro e wb ⟨rfl, hq⟩
        have hb := bnext ha hq
        go_wp2_with fail
        refine hK.out _ _ (hb) (fun _ => ?_)
        clear hK K
        (try simp only [Act.put, List.setIfInBounds_toArray, List.set_cons_zero, List.set_cons_succ])
        refine takeH (i := 8) (v := ?_) rfl (by kernel_rfl) (by kernel_rfl) (by kernel_rfl) (fun _ _ _ h => h) (Or.inl ⟨by rfl, ?_⟩) (by assumption) ?_
        rotate_left
        · (intro w hSw; (try dsimp only at hSw); go_simp; first | done | with_reducible rfl)
        (try simp only [Act.put, List.setIfInBounds_toArray, List.set_cons_zero, List.set_cons_succ])
        refine wpAnyH_done (by kernel_rfl) ?_ _
        replace HP5 := Lib.hid (below_block HP5.out hb)
        replace HZ5 := Lib.hid (below_block HZ5.out hb)
        replace HG5 := Lib.hid (below_block HG5.out hb)
        replace HM5 := Lib.hid (HM5.out.below hb)
        replace HB5 := Lib.hid (bnext HB5.out hb)
        replace HS5 := Lib.hid (Nat.le_trans HS5.out hb.size)
        clear ha hb HIM
        cases rb
        · go_wp2
          refine wp_region_held_drew (S := fun w' => w'.heap[w.heap.size]? = some (Obj.cells (s9 (.slice ax J.length cx) (.slice ary lr cry) (.slice az lw cz) k c f v a n) 81 (0, 0)) ∧ Below w.heap.size w w') (by kernel_rfl) (by first | exact ⟨HP5.out, HB5.out⟩ | exact ⟨HP5.out, HB5.out.drew⟩) (fun _ => ?_)
          replace HP5 := Lib.hid (show wb.drew.heap[w.heap.size]? = some (Obj.cells (s9 (.slice ax J.length cx) (.slice ary lr cry) (.slice az lw cz) k c f v a n) 81 (0, 0)) from by first | exact HP5.out | (have hq : Below wb.heap.size wb wb.drew := (Below.refl _ wb).drew; exact below_block HP5.out hq))
          replace HZ5 := Lib.hid (show wb.drew.heap[w.heap.size + 1]? = some (Obj.cells (v4 (.slice none 0 0) 0 0 0) 41 (0, 0)) from by first | exact HZ5.out | (have hq : Below wb.heap.size wb wb.drew := (Below.refl _ wb).drew; exact below_block HZ5.out hq))
          replace HB5 := Lib.hid (show Below w.heap.size w wb.drew from by first | exact HB5.out | (have hq : Below wb.heap.size wb wb.drew := (Below.refl _ wb).drew; exact HB5.out.trans (hq.mono HB5.out.size)))
          replace HS5 := Lib.hid (show w.heap.size + 3 ≤ wb.drew.heap.size from by first | exact HS5.out | (have hq : Below wb.heap.size wb wb.drew := (Below.refl _ wb).drew; exact Nat.le_trans HS5.out hq.size))
          replace HM5 := Lib.hid (show OwnM (w.heap.size + 3) wb.drew (.slice sa slen sc) (MJ j) from HM5.out)
          replace HG5 := Lib.hid (show wb.drew.heap[w.heap.size + 1 + 1]? = some (Obj.cells (v4 (.slice sa slen sc) 1 0 0) 41 (0, 0)) from HG5.out)
          have hS : wb.drew.heap[w.heap.size]? = some (Obj.cells (s9 (.slice ax J.length cx) (.slice ary lr cry) (.slice az lw cz) k c f v a n) 81 (0, 0)) ∧ Below w.heap.size w wb.drew := ⟨HP5.out, HB5.out⟩
          generalize wb.drew = wa at HP5 HZ5 HB5 HS5 HM5 HG5 hS ⊢
          refine takeH (i := 0) (v := ?_) rfl (by kernel_rfl) (by kernel_rfl) (by kernel_rfl) (fun _ _ _ h => h) (Or.inl ⟨by rfl, ?_⟩) (by assumption) ?_
          rotate_left
          · (intro w hSw; (try dsimp only at hSw); go_simp; first | done | with_reducible rfl)
          (try simp only [Act.put, List.setIfInBounds_toArray, List.set_cons_zero, List.set_cons_succ])
          refine takeH (i := 2) (v := ?_) rfl (by kernel_rfl) (by kernel_rfl) (by kernel_rfl) (fun _ _ _ h => h) (Or.inl ⟨by rfl, ?_⟩) (by assumption) ?_
          rotate_left
          · (intro w hSw; (try dsimp only at hSw); go_simp; first | done | with_reducible rfl)
          (try simp only [Act.put, List.setIfInBounds_toArray, List.set_cons_zero, List.set_cons_succ])
          refine takeH (i := 4) (v := ?_) rfl (by kernel_rfl) (by kernel_rfl) (by kernel_rfl) (fun _ _ _ h => h) (Or.inl ⟨by rfl, ?_⟩) (by assumption) ?_
          rotate_left
          · (intro w hSw; (try dsimp only at hSw); go_simp; first | done | with_reducible rfl)
          (try simp only [Act.put, List.setIfInBounds_toArray, List.set_cons_zero, List.set_cons_succ])
          refine takeH (i := 8) (v := ?_) rfl (by kernel_rfl) (by kernel_rfl) (by kernel_rfl) (fun _ _ _ h => h) (Or.inl ⟨by rfl, ?_⟩) (by assumption) ?_
          rotate_left
          · (intro w hSw; (try dsimp only at hSw); go_simp; first | done | with_reducible rfl)
          (try simp only [Act.put, List.setIfInBounds_toArray, List.set_cons_zero, List.set_cons_succ])
          refine takeH (i := 10) (v := ?_) rfl (by kernel_rfl) (by kernel_rfl) (by kernel_rfl) (fun _ _ _ h => h) (Or.inl ⟨by rfl, ?_⟩) (by assumption) ?_
          rotate_left
          · (intro w hSw; (try dsimp only at hSw); go_simp; first | done | with_reducible rfl)
          (try simp only [Act.put, List.setIfInBounds_toArray, List.set_cons_zero, List.set_cons_succ])
          refine takeH (i := 3) (v := ?_) rfl (by kernel_rfl) (by kernel_rfl) (by kernel_rfl) (fun _ _ _ h => h) (Or.inl ⟨by rfl, ?_⟩) (by assumption) ?_
          rotate_left
          · (intro w hSw; (try dsimp only at hSw); obtain ⟨⟨p0, p1, p2, p3, p4, p5, p6, p7, p8⟩, _⟩ := row9_at hSw.1; go_simp; first | done | with_reducible rfl)
          (try simp only [Act.put, List.setIfInBounds_toArray, List.set_cons_zero, List.set_cons_succ])
          refine takeH (i := 5) (v := ?_) rfl (by kernel_rfl) (by kernel_rfl) (by kernel_rfl) (fun _ _ _ h => h) (Or.inl ⟨by rfl, ?_⟩) (by assumption) ?_
          rotate_left
          · (intro w hSw; (try dsimp only at hSw); have hi := HHI.out; go_simp; first | done | with_reducible rfl)
          (try simp only [Act.put, List.setIfInBounds_toArray, List.set_cons_zero, List.set_cons_succ])
          refine takeH (i := 6) (v := ?_) rfl (by kernel_rfl) (by kernel_rfl) (by kernel_rfl) (fun _ _ _ h => h) (Or.inl ⟨by rfl, ?_⟩) (by assumption) ?_
          rotate_left
          · (intro w hSw; (try dsimp only at hSw); have hc := HCL.out w hSw.2; go_simp; first | done | with_reducible rfl)
          (try simp only [Act.put, List.setIfInBounds_toArray, List.set_cons_zero, List.set_cons_succ])
          refine takeH (i := 7) (v := ?_) rfl (by kernel_rfl) (by kernel_rfl) (by kernel_rfl) (fun _ _ _ h => h) (Or.inl ⟨by rfl, ?_⟩) (by assumption) ?_
          rotate_left
          · (intro w hSw; (try dsimp only at hSw); obtain ⟨⟨p0, p1, p2, p3, p4, p5, p6, p7, p8⟩, _⟩ := row9_at hSw.1; go_simp; first | done | with_reducible rfl)
          (try simp only [Act.put, List.setIfInBounds_toArray, List.set_cons_zero, List.set_cons_succ])
          refine takeH (i := 9) (v := ?_) rfl (by kernel_rfl) (by kernel_rfl) (by kernel_rfl) (fun _ _ _ h => h) (Or.inl ⟨by rfl, ?_⟩) (by assumption) ?_
          rotate_left
          · (intro w hSw; (try dsimp only at hSw); obtain ⟨⟨p0, p1, p2, p3, p4, p5, p6, p7, p8⟩, _⟩ := row9_at hSw.1; go_simp; first | done | with_reducible rfl)
          (try simp only [Act.put, List.setIfInBounds_toArray, List.set_cons_zero, List.set_cons_succ])
          refine takeH (i := 11) (v := ?_) rfl (by kernel_rfl) (by kernel_rfl) (by kernel_rfl) (fun _ _ _ h => h) (Or.inl ⟨by rfl, ?_⟩) (by assumption) ?_
          rotate_left
          · (intro w hSw; (try dsimp only at hSw); have hi := HHI.out; go_simp; first | done | with_reducible rfl)
          (try simp only [Act.put, List.setIfInBounds_toArray, List.set_cons_zero, List.set_cons_succ])
          refine takeH (i := 12) (v := ?_) rfl (by kernel_rfl) (by kernel_rfl) (by kernel_rfl) (fun _ _ _ h => h) (Or.inl ⟨by rfl, ?_⟩) (by assumption) ?_
          rotate_left
          · (intro w hSw; (try dsimp only at hSw); have hc := HCL.out w hSw.2; go_simp; first | done | with_reducible rfl)
          (try simp only [Act.put, List.setIfInBounds_toArray, List.set_cons_zero, List.set_cons_succ])
          refine wpAnyH_ready (rs := [1, 13]) (by kernel_rfl) (by simp) ?_
          refine stepH rfl (fun K hK => ?_) (stepH rfl (fun K hK => ?_) AllReadyH.nil)
          · obtain ⟨⟨q0, q1, q2, q3⟩, _⟩ := row4_at (HG5.out)
            go_simp
            refine hK.out _ _ (⟨HP5.out, HB5.out⟩) (fun _ => ?_)
            clear hK K
            (try simp only [Act.put, List.setIfInBounds_toArray, List.set_cons_zero, List.set_cons_succ])
            clear q0 q1 q2 q3
            refine wpAnyH_ready (rs := [13]) (by kernel_rfl) (by simp) ?_
            refine stepH rfl (fun K hK => ?_) AllReadyH.nil
            go_simp
            refine (HWM.out wa HB5.out).mono ?_
            rintro e waq ⟨rfl, hq⟩
            replace HP5 := Lib.hid (show waq.heap[w.heap.size]? = some (Obj.cells (s9 (.slice ax J.length cx) (.slice ary lr cry) (.slice az lw cz) k c f v a n) 81 (0, 0)) from below_block HP5.out hq)
            replace HZ5 := Lib.hid (show waq.heap[w.heap.size + 1]? = some (Obj.cells (v4 (.slice none 0 0) 0 0 0) 41 (0, 0)) from below_block HZ5.out hq)
            replace HB5 := Lib.hid (show Below w.heap.size w waq from HB5.out.trans (hq.mono HB5.out.size))
            replace HS5 := Lib.hid (show w.heap.size + 3 ≤ waq.heap.size from Nat.le_trans HS5.out hq.size)
            replace HM5 := Lib.hid (HM5.out.below hq)
            replace HG5 := Lib.hid (below_block HG5.out hq)
            replace hS : waq.heap[w.heap.size]? = some (Obj.cells (s9 (.slice ax J.length cx) (.slice ary lr cry) (.slice az lw cz) k c f v a n) 81 (0, 0)) ∧ Below w.heap.size w waq := ⟨HP5.out, HB5.out⟩
            clear hq
            go_wp2_with fail
            refine hK.out _ _ (⟨HP5.out, HB5.out⟩) (fun _ => ?_)
            clear hK K
            (try simp only [Act.put, List.setIfInBounds_toArray, List.set_cons_zero, List.set_cons_succ])
            refine takeH (i := 14) (v := ?_) rfl (by kernel_rfl) (by kernel_rfl) (by kernel_rfl) (fun _ _ _ h => h) (Or.inl ⟨by rfl, ?_⟩) (by assumption) ?_
            rotate_left
            · (intro w hSw; (try dsimp only at hSw); go_simp; first | done | with_reducible rfl)
            (try simp only [Act.put, List.setIfInBounds_toArray, List.set_cons_zero, List.set_cons_succ])
            refine wpAnyH_ready (rs := [15]) (by kernel_rfl) (by simp) ?_
            refine stepH rfl (fun K hK => ?_) AllReadyH.nil
            go_simp
            refine hK.out _ _ (⟨(by have hq := below_fresh waq (.cells #[.int .i64 m, .int .i64 WT] 63); exact below_block HP5.out hq), (by have hq := below_fresh waq (.cells #[.int .i64 m, .int .i64 WT] 63); exact HB5.out.trans (hq.mono HB5.out.size))⟩) (fun _ => ?_)
            clear hK K
            (try simp only [Act.put, List.setIfInBounds_toArray, List.set_cons_zero, List.set_cons_succ])
            refine wpAnyH_ready (rs := [16]) (by kernel_rfl) (by simp) ?_
            refine stepH rfl (fun K hK => ?_) AllReadyH.nil
            refine step_appG1 memE (m, WT) rfl (.tmp 31) (.tmp 45) rfl (by rfl) HM5.out (by rfl) HLN.out HS5.out ?_
            intro vy wy hoy hb hk
            obtain ⟨ay, ly, cy, hvy⟩ : ∃ a l c, vy = .slice a l c := (by obtain ⟨a, c, h, _⟩ := hoy.rd.shape; exact ⟨a, _, c, h⟩)
            subst hvy
            replace HP5 := Lib.hid (show wy.heap[w.heap.size]? = some (Obj.cells (s9 (.slice ax J.length cx) (.slice ary lr cry) (.slice az lw cz) k c f v a n) 81 (0, 0)) from hk.at HP5.out (by decide))
            replace HZ5 := Lib.hid (show wy.heap[w.heap.size + 1]? = some (Obj.cells (v4 (.slice none 0 0) 0 0 0) 41 (0, 0)) from hk.at HZ5.out (by decide))
            replace HB5 := Lib.hid (show Below w.heap.size w wy from HB5.out.trans (hb.mono (by omega)))
            replace HS5 := Lib.hid (show w.heap.size + 3 ≤ wy.heap.size from Nat.le_trans HS5.out hb.size)
            replace HG5 := Lib.hid (hk.at HG5.out (by decide))
            replace HM5 := Lib.hid hoy
            replace hS : wy.heap[w.heap.size]? = some (Obj.cells (s9 (.slice ax J.length cx) (.slice ary lr cry) (.slice az lw cz) k c f v a n) 81 (0, 0)) ∧ Below w.heap.size w wy := ⟨HP5.out, HB5.out⟩
            clear hoy hb hk
            refine hK.out _ _ (⟨HP5.out, HB5.out⟩) (fun _ => ?_)
            clear hK K
            (try simp only [Act.put, List.setIfInBounds_toArray, List.set_cons_zero, List.set_cons_succ])
            refine takeH (i := 17) (v := ?_) rfl (by kernel_rfl) (by kernel_rfl) (by kernel_rfl) (fun _ _ _ h => h) (Or.inl ⟨by rfl, ?_⟩) (by assumption) ?_
            rotate_left
            · (intro w hSw; (try dsimp only at hSw); go_simp; first | done | with_reducible rfl)
            (try simp only [Act.put, List.setIfInBounds_toArray, List.set_cons_zero, List.set_cons_succ])
            obtain ⟨⟨q0, q1, q2, q3⟩, g0, g1, g2, g3⟩ := row4_at HG5.out
            have hg8 : (wy.setCell ⟨w.heap.size + 1 + 1, 0, none⟩ (.slice ay ly cy)).heap[w.heap.size + 1 + 1]? = some (Obj.cells (v4 (.slice ay ly cy) 1 0 0) 41 (0, 0)) := heap_setCell_same wy _ 0 _ _ _ HG5.out
            have ho : Only (w.heap.size + 1 + 1) wy (wy.setCell ⟨w.heap.size + 1 + 1, 0, none⟩ (.slice ay ly cy)) := Only.set 0 _
            replace HM5 := Lib.hid (ownG_only HM5.out HG5.out (by decide) ho)
            replace HP5 := Lib.hid (show (wy.setCell ⟨w.heap.size + 1 + 1, 0, none⟩ (.slice ay ly cy)).heap[w.heap.size]? = some (Obj.cells (s9 (.slice ax J.length cx) (.slice ary lr cry) (.slice az lw cz) k c f v a n) 81 (0, 0)) from ho.at HP5.out (by omega))
            replace HZ5 := Lib.hid (show (wy.setCell ⟨w.heap.size + 1 + 1, 0, none⟩ (.slice ay ly cy)).heap[w.heap.size + 1]? = some (Obj.cells (v4 (.slice none 0 0) 0 0 0) 41 (0, 0)) from ho.at HZ5.out (by omega))
            replace HB5 := Lib.hid (show Below w.heap.size w (wy.setCell ⟨w.heap.size + 1 + 1, 0, none⟩ (.slice ay ly cy)) from HB5.out.trans (ho.below (by omega) HB5.out.size))
            replace HS5 := Lib.hid (show w.heap.size + 3 ≤ (wy.setCell ⟨w.heap.size + 1 + 1, 0, none⟩ (.slice ay ly cy)).heap.size from Nat.le_trans HS5.out ho.size)
            replace HG5 := Lib.hid hg8
            replace hS : (wy.setCell ⟨w.heap.size + 1 + 1, 0, none⟩ (.slice ay ly cy)).heap[w.heap.size]? = some (Obj.cells (s9 (.slice ax J.length cx) (.slice ary lr cry) (.slice az lw cz) k c f v a n) 81 (0, 0)) ∧ Below w.heap.size w (wy.setCell ⟨w.heap.size + 1 + 1, 0, none⟩ (.slice ay ly cy)) := ⟨HP5.out, HB5.out⟩
            clear hg8 ho
            refine wpAnyH_ready (rs := [18]) (by kernel_rfl) (by simp) ?_
            refine stepH rfl (fun K hK => ?_) AllReadyH.nil
            go_simp
            refine hK.out _ _ (⟨HP5.out, HB5.out⟩) (fun _ => ?_)
            clear hK K
            (try simp only [Act.put, List.setIfInBounds_toArray, List.set_cons_zero, List.set_cons_succ])
            refine wpAnyH_done (by kernel_rfl) ?_ _
            generalize (wy.setCell ⟨w.heap.size + 1 + 1, 0, none⟩ (.slice ay ly cy)) = wz at HP5 HZ5 HB5 HS5 HM5 HG5 hS ⊢
            clear hS q0 q1 q2 q3 g0 g1 g2 g3
            go_wp2
            go_roundw
            case rel => exact ⟨j + 1, _, by omega, by go_num, HP5, HZ5, HG5, Lib.hid (by rw [HSN.out]; exact HM5.out), HB5, HS5⟩
            case measure => simp [intOf]; omega
          · go_simp
            refine (HWM.out wa HB5.out).mono ?_
            rintro e waq ⟨rfl, hq⟩
            replace HP5 := Lib.hid (show waq.heap[w.heap.size]? = some (Obj.cells (s9 (.slice ax J.length cx) (.slice ary lr cry) (.slice az lw cz) k c f v a n) 81 (0, 0)) from below_block HP5.out hq)
            replace HZ5 := Lib.hid (show waq.heap[w.heap.size + 1]? = some (Obj.cells (v4 (.slice none 0 0) 0 0 0) 41 (0, 0)) from below_block HZ5.out hq)
            replace HB5 := Lib.hid (show Below w.heap.size w waq from HB5.out.trans (hq.mono HB5.out.size))
            replace HS5 := Lib.hid (show w.heap.size + 3 ≤ waq.heap.size from Nat.le_trans HS5.out hq.size)
            replace HM5 := Lib.hid (HM5.out.below hq)
            replace HG5 := Lib.hid (below_block HG5.out hq)
            replace hS : waq.heap[w.heap.size]? = some (Obj.cells (s9 (.slice ax J.length cx) (.slice ary lr cry) (.slice az lw cz) k c f v a n) 81 (0, 0)) ∧ Below w.heap.size w waq := ⟨HP5.out, HB5.out⟩
            clear hq
            go_wp2_with fail
            refine hK.out _ _ (⟨HP5.out, HB5.out⟩) (fun _ => ?_)
            clear hK K
            (try simp only [Act.put, List.setIfInBounds_toArray, List.set_cons_zero, List.set_cons_succ])
            refine takeH (i := 14) (v := ?_) rfl (by kernel_rfl) (by kernel_rfl) (by kernel_rfl) (fun _ _ _ h => h) (Or.inl ⟨by rfl, ?_⟩) (by assumption) ?_
            rotate_left
            · (intro w hSw; (try dsimp only at hSw); go_simp; first | done | with_reducible rfl)
            (try simp only [Act.put, List.setIfInBounds_toArray, List.set_cons_zero, List.set_cons_succ])
            refine wpAnyH_ready (rs := [1, 15]) (by kernel_rfl) (by simp) ?_
            refine stepH rfl (fun K hK => ?_) (stepH rfl (fun K hK => ?_) AllReadyH.nil)
            · obtain ⟨⟨q0, q1, q2, q3⟩, _⟩ := row4_at (HG5.out)
              go_simp
              refine hK.out _ _ (⟨HP5.out, HB5.out⟩) (fun _ => ?_)
              clear hK K
              (try simp only [Act.put, List.setIfInBounds_toArray, List.set_cons_zero, List.set_cons_succ])
              clear q0 q1 q2 q3
              refine wpAnyH_ready (rs := [15]) (by kernel_rfl) (by simp) ?_
              refine stepH rfl (fun K hK => ?_) AllReadyH.nil
              go_simp
              refine hK.out _ _ (⟨(by have hq := below_fresh waq (.cells #[.int .i64 m, .int .i64 WT] 63); exact below_block HP5.out hq), (by have hq := below_fresh waq (.cells #[.int .i64 m, .int .i64 WT] 63); exact HB5.out.trans (hq.mono HB5.out.size))⟩) (fun _ => ?_)
              clear hK K
              (try simp only [Act.put, List.setIfInBounds_toArray, List.set_cons_zero, List.set_cons_succ])
              refine wpAnyH_ready (rs := [16]) (by kernel_rfl) (by simp) ?_
              refine stepH rfl (fun K hK => ?_) AllReadyH.nil
              refine step_appG1 memE (m, WT) rfl (.tmp 31) (.tmp 45) rfl (by rfl) HM5.out (by rfl) HLN.out HS5.out ?_
              intro vy wy hoy hb hk
              obtain ⟨ay, ly, cy, hvy⟩ : ∃ a l c, vy = .slice a l c := (by obtain ⟨a, c, h, _⟩ := hoy.rd.shape; exact ⟨a, _, c, h⟩)
              subst hvy
              replace HP5 := Lib.hid (show wy.heap[w.heap.size]? = some (Obj.cells (s9 (.slice ax J.length cx) (.slice ary lr cry) (.slice az lw cz) k c f v a n) 81 (0, 0)) from hk.at HP5.out (by decide))
              replace HZ5 := Lib.hid (show wy.heap[w.heap.size + 1]? = some (Obj.cells (v4 (.slice none 0 0) 0 0 0) 41 (0, 0)) from hk.at HZ5.out (by decide))
              replace HB5 := Lib.hid (show Below w.heap.size w wy from HB5.out.trans (hb.mono (by omega)))
              replace HS5 := Lib.hid (show w.heap.size + 3 ≤ wy.heap.size from Nat.le_trans HS5.out hb.size)
              replace HG5 := Lib.hid (hk.at HG5.out (by decide))
              replace HM5 := Lib.hid hoy
              replace hS : wy.heap[w.heap.size]? = some (Obj.cells (s9 (.slice ax J.length cx) (.slice ary lr cry) (.slice az lw cz) k c f v a n) 81 (0, 0)) ∧ Below w.heap.size w wy := ⟨HP5.out, HB5.out⟩
              clear hoy hb hk
              refine hK.out _ _ (⟨HP5.out, HB5.out⟩) (fun _ => ?_)
              clear hK K
              (try simp only [Act.put, List.setIfInBounds_toArray, List.set_cons_zero, List.set_cons_succ])
              refine takeH (i := 17) (v := ?_) rfl (by kernel_rfl) (by kernel_rfl) (by kernel_rfl) (fun _ _ _ h => h) (Or.inl ⟨by rfl, ?_⟩) (by assumption) ?_
              rotate_left
              · (intro w hSw; (try dsimp only at hSw); go_simp; first | done | with_reducible rfl)
              (try simp only [Act.put, List.setIfInBounds_toArray, List.set_cons_zero, List.set_cons_succ])
              obtain ⟨⟨q0, q1, q2, q3⟩, g0, g1, g2, g3⟩ := row4_at HG5.out
              have hg8 : (wy.setCell ⟨w.heap.size + 1 + 1, 0, none⟩ (.slice ay ly cy)).heap[w.heap.size + 1 + 1]? = some (Obj.cells (v4 (.slice ay ly cy) 1 0 0) 41 (0, 0)) := heap_setCell_same wy _ 0 _ _ _ HG5.out
              have ho : Only (w.heap.size + 1 + 1) wy (wy.setCell ⟨w.heap.size + 1 + 1, 0, none⟩ (.slice ay ly cy)) := Only.set 0 _
              replace HM5 := Lib.hid (ownG_only HM5.out HG5.out (by decide) ho)
              replace HP5 := Lib.hid (show (wy.setCell ⟨w.heap.size + 1 + 1, 0, none⟩ (.slice ay ly cy)).heap[w.heap.size]? = some (Obj.cells (s9 (.slice ax J.length cx) (.slice ary lr cry) (.slice az lw cz) k c f v a n) 81 (0, 0)) from ho.at HP5.out (by omega))
              replace HZ5 := Lib.hid (show (wy.setCell ⟨w.heap.size + 1 + 1, 0, none⟩ (.slice ay ly cy)).heap[w.heap.size + 1]? = some (Obj.cells (v4 (.slice none 0 0) 0 0 0) 41 (0, 0)) from ho.at HZ5.out (by omega))
              replace HB5 := Lib.hid (show Below w.heap.size w (wy.setCell ⟨w.heap.size + 1 + 1, 0, none⟩ (.slice ay ly cy)) from HB5.out.trans (ho.below (by omega) HB5.out.size))
              replace HS5 := Lib.hid (show w.heap.size + 3 ≤ (wy.setCell ⟨w.heap.size + 1 + 1, 0, none⟩ (.slice ay ly cy)).heap.size from Nat.le_trans HS5.out ho.size)
              replace HG5 := Lib.hid hg8
              replace hS : (wy.setCell ⟨w.heap.size + 1 + 1, 0, none⟩ (.slice ay ly cy)).heap[w.heap.size]? = some (Obj.cells (s9 (.slice ax J.length cx) (.slice ary lr cry) (.slice az lw cz) k c f v a n) 81 (0, 0)) ∧ Below w.heap.size w (wy.setCell ⟨w.heap.size + 1 + 1, 0, none⟩ (.slice ay ly cy)) := ⟨HP5.out, HB5.out⟩
              clear hg8 ho
              refine wpAnyH_ready (rs := [18]) (by kernel_rfl) (by simp) ?_
              refine stepH rfl (fun K hK => ?_) AllReadyH.nil
              go_simp
              refine hK.out _ _ (⟨HP5.out, HB5.out⟩) (fun _ => ?_)
              clear hK K
              (try simp only [Act.put, List.setIfInBounds_toArray, List.set_cons_zero, List.set_cons_succ])
              refine wpAnyH_done (by kernel_rfl) ?_ _
              generalize (wy.setCell ⟨w.heap.size + 1 + 1, 0, none⟩ (.slice ay ly cy)) = wz at HP5 HZ5 HB5 HS5 HM5 HG5 hS ⊢
              clear hS q0 q1 q2 q3 g0 g1 g2 g3
              go_wp2
              go_roundw
              case rel => exact ⟨j + 1, _, by omega, by go_num, HP5, HZ5, HG5, Lib.hid (by rw [HSN.out]; exact HM5.out), HB5, HS5⟩
              case measure => simp [intOf]; omega
            · go_simp
              refine hK.out _ _ (⟨(by have hq := below_fresh waq (.cells #[.int .i64 m, .int .i64 WT] 63); exact below_block HP5.out hq), (by have hq := below_fresh waq (.cells #[.int .i64 m, .int .i64 WT] 63); exact HB5.out.trans (hq.mono HB5.out.size))⟩) (fun _ => ?_)
              clear hK K
              (try simp only [Act.put, List.setIfInBounds_toArray, List.set_cons_zero, List.set_cons_succ])
              refine wpAnyH_ready (rs := [1]) (by kernel_rfl) (by simp) ?_
              refine stepH rfl (fun K hK => ?_) AllReadyH.nil
              obtain ⟨⟨q0, q1, q2, q3⟩, _⟩ := row4_at (below_block HG5.out (below_fresh waq (.cells #[.int .i64 m, .int .i64 WT] 63)))
              go_simp
              refine hK.out _ _ (⟨(by have hq := below_fresh waq (.cells #[.int .i64 m, .int .i64 WT] 63); exact below_block HP5.out hq), (by have hq := below_fresh waq (.cells #[.int .i64 m, .int .i64 WT] 63); exact HB5.out.trans (hq.mono HB5.out.size))⟩) (fun _ => ?_)
              clear hK K
              (try simp only [Act.put, List.setIfInBounds_toArray, List.set_cons_zero, List.set_cons_succ])
              clear q0 q1 q2 q3
              refine wpAnyH_ready (rs := [16]) (by kernel_rfl) (by simp) ?_
              refine stepH rfl (fun K hK => ?_) AllReadyH.nil
              refine step_appG1 memE (m, WT) rfl (.tmp 31) (.tmp 45) rfl (by rfl) HM5.out (by rfl) HLN.out HS5.out ?_
              intro vy wy hoy hb hk
              obtain ⟨ay, ly, cy, hvy⟩ : ∃ a l c, vy = .slice a l c := (by obtain ⟨a, c, h, _⟩ := hoy.rd.shape; exact ⟨a, _, c, h⟩)
              subst hvy
              replace HP5 := Lib.hid (show wy.heap[w.heap.size]? = some (Obj.cells (s9 (.slice ax J.length cx) (.slice ary lr cry) (.slice az lw cz) k c f v a n) 81 (0, 0)) from hk.at HP5.out (by decide))
              replace HZ5 := Lib.hid (show wy.heap[w.heap.size + 1]? = some (Obj.cells (v4 (.slice none 0 0) 0 0 0) 41 (0, 0)) from hk.at HZ5.out (by decide))
              replace HB5 := Lib.hid (show Below w.heap.size w wy from HB5.out.trans (hb.mono (by omega)))
              replace HS5 := Lib.hid (show w.heap.size + 3 ≤ wy.heap.size from Nat.le_trans HS5.out hb.size)
              replace HG5 := Lib.hid (hk.at HG5.out (by decide))
              replace HM5 := Lib.hid hoy
              replace hS : wy.heap[w.heap.size]? = some (Obj.cells (s9 (.slice ax J.length cx) (.slice ary lr cry) (.slice az lw cz) k c f v a n) 81 (0, 0)) ∧ Below w.heap.size w wy := ⟨HP5.out, HB5.out⟩
              clear hoy hb hk
              refine hK.out _ _ (⟨HP5.out, HB5.out⟩) (fun _ => ?_)
              clear hK K
              (try simp only [Act.put, List.setIfInBounds_toArray, List.set_cons_zero, List.set_cons_succ])
              refine takeH (i := 17) (v := ?_) rfl (by kernel_rfl) (by kernel_rfl) (by kernel_rfl) (fun _ _ _ h => h) (Or.inl ⟨by rfl, ?_⟩) (by assumption) ?_
              rotate_left
              · (intro w hSw; (try dsimp only at hSw); go_simp; first | done | with_reducible rfl)
              (try simp only [Act.put, List.setIfInBounds_toArray, List.set_cons_zero, List.set_cons_succ])
              obtain ⟨⟨q0, q1, q2, q3⟩, g0, g1, g2, g3⟩ := row4_at HG5.out
              have hg8 : (wy.setCell ⟨w.heap.size + 1 + 1, 0, none⟩ (.slice ay ly cy)).heap[w.heap.size + 1 + 1]? = some (Obj.cells (v4 (.slice ay ly cy) 1 0 0) 41 (0, 0)) := heap_setCell_same wy _ 0 _ _ _ HG5.out
              have ho : Only (w.heap.size + 1 + 1) wy (wy.setCell ⟨w.heap.size + 1 + 1, 0, none⟩ (.slice ay ly cy)) := Only.set 0 _
              replace HM5 := Lib.hid (ownG_only HM5.out HG5.out (by decide) ho)
              replace HP5 := Lib.hid (show (wy.setCell ⟨w.heap.size + 1 + 1, 0, none⟩ (.slice ay ly cy)).heap[w.heap.size]? = some (Obj.cells (s9 (.slice ax J.length cx) (.slice ary lr cry) (.slice az lw cz) k c f v a n) 81 (0, 0)) from ho.at HP5.out (by omega))
              replace HZ5 := Lib.hid (show (wy.setCell ⟨w.heap.size + 1 + 1, 0, none⟩ (.slice ay ly cy)).heap[w.heap.size + 1]? = some (Obj.cells (v4 (.slice none 0 0) 0 0 0) 41 (0, 0)) from ho.at HZ5.out (by omega))
              replace HB5 := Lib.hid (show Below w.heap.size w (wy.setCell ⟨w.heap.size + 1 + 1, 0, none⟩ (.slice ay ly cy)) from HB5.out.trans (ho.below (by omega) HB5.out.size))
              replace HS5 := Lib.hid (show w.heap.size + 3 ≤ (wy.setCell ⟨w.heap.size + 1 + 1, 0, none⟩ (.slice ay ly cy)).heap.size from Nat.le_trans HS5.out ho.size)
              replace HG5 := Lib.hid hg8
              replace hS : (wy.setCell ⟨w.heap.size + 1 + 1, 0, none⟩ (.slice ay ly cy)).heap[w.heap.size]? = some (Obj.cells (s9 (.slice ax J.length cx) (.slice ary lr cry) (.slice az lw cz) k c f v a n) 81 (0, 0)) ∧ Below w.heap.size w (wy.setCell ⟨w.heap.size + 1 + 1, 0, none⟩ (.slice ay ly cy)) := ⟨HP5.out, HB5.out⟩
              clear hg8 ho
              refine wpAnyH_ready (rs := [18]) (by kernel_rfl) (by simp) ?_
              refine stepH rfl (fun K hK => ?_) AllReadyH.nil
              go_simp
              refine hK.out _ _ (⟨HP5.out, HB5.out⟩) (fun _ => ?_)
              clear hK K
              (try simp only [Act.put, List.setIfInBounds_toArray, List.set_cons_zero, List.set_cons_succ])
              refine wpAnyH_done (by kernel_rfl) ?_ _
              generalize (wy.setCell ⟨w.heap.size + 1 + 1, 0, none⟩ (.slice ay ly cy)) = wz at HP5 HZ5 HB5 HS5 HM5 HG5 hS ⊢
              clear hS q0 q1 q2 q3 g0 g1 g2 g3
              go_wp2
              go_roundw
              case rel => exact ⟨j + 1, _, by omega, by go_num, HP5, HZ5, HG5, Lib.hid (by rw [HSN.out]; exact HM5.out), HB5, HS5⟩
              case measure => simp [intOf]; omega
        · replace HM5 := Lib.hid (show OwnM (w.heap.size + 3) wb (.slice sa slen sc) (MJ (j + 1)) by rw [HSN.out]; exact HM5.out)
          go_wp2
          go_roundw
          case rel => exact ⟨j + 1, _, by omega, by go_num, HP5, HZ5, HG5, HM5, HB5, HS5⟩
          case measure => simp [intOf]; omega
      · have hq : ¬ ((j : Int) < (J.length : Int)) := by omega
        obtain rfl : j = J.length := by omega
        rw [HALL.out] at HM5
        obtain ⟨⟨p0, p1, p2, p3, p4, p5, p6, p7, p8⟩, _⟩ := row9_at HP5.out
        obtain ⟨⟨y0, y1, y2, y3⟩, _⟩ := row4_at HG5.out
        obtain ⟨⟨z0, z1, z2, z3⟩, f0, f1, f2, f3⟩ := row4_at HZ5.out
        go_wp2
        have hput := row4_put HZ5.out (.slice sa slen sc) (.int .i64 1) (.int .i64 0) (.int .i64 0) w.heap.size (by omega)
        have hon := onlyc4 (w := wr) (g := w.heap.size + 1) (.slice sa slen sc) (.int .i64 1) (.int .i64 0) (.int .i64 0)
        exact rview_ret rfl hput.1 rfl ⟨.slice sa slen sc, by rw [HK.out, HC.out, HF.out], (ownG_only HM5.out HZ5.out (by decide) hon).mono (by omega), HB5.out.trans hput.2⟩

end Go.Proofs.YthfpafnljnnndaaGreat
