/-
  The calls of the reference's Of and of its Join: the summary of a proposal; the join of two summaries. Conditions: what they read ascends and is short.
-/
import Derived.Test.YtkaafbdhgekeeaaGreatMAwake
import Derived.Test.YtkaafbdhgekeeaaGreatMRIni
namespace Go.Proofs.YtkaafbdhgekeeaaGreat
open Go.RowKit Go.Joins
open JM (Chg)
open MM (Mem Ent Sm Tri)

theorem rof_ret {R : Ending → World → Prop} {a : Act} {w : World} {g : Nat} {x y z : Value} {k c f v a' n : Int} (hp : a.tmps.getD 2 undef = .pointer (some ⟨g, 0, none⟩)) (hg : w.heap[g]? = some (.cells (s9 x y z k c f v a' n) 37 (0, 0)))
    (hd : a.defers = []) (hR : R (.returned (sv x y z k c f v a' n)) w) : bodyPost Tryz.prog Tryz.f26 R .ret a w :=
  bodyPost_ret (results_cell_row (P := Tryz.prog) rfl a.tmps w g 37 _ _ _ hp hg Tryz.underlying37 rfl (by kernel_rfl)) hd hR
theorem rjoin_ret {R : Ending → World → Prop} {a : Act} {w : World} {g : Nat} {x y z : Value} {k c f v a' n : Int} (hp : a.tmps.getD 4 undef = .pointer (some ⟨g, 0, none⟩)) (hg : w.heap[g]? = some (.cells (s9 x y z k c f v a' n) 37 (0, 0)))
    (hd : a.defers = []) (hR : R (.returned (sv x y z k c f v a' n)) w) : bodyPost Tryz.prog Tryz.f25 R .ret a w :=
  bodyPost_ret (results_cell_row (P := Tryz.prog) rfl a.tmps w g 37 _ _ _ hp hg Tryz.underlying37 rfl (by kernel_rfl)) hd hR

/-! A list that reads in w and goes on reading while the blocks from B on stay. -/
def FrI (B : Nat) (w : World) (v : Value) (l : List Int) : Prop := ∀ w', Fr B w w' → RdI w' v l
def FrW (B : Nat) (w : World) (v : Value) (l : List Ent) : Prop := ∀ w', Fr B w w' → RdW w' v l
theorem FrI.rd {B : Nat} {w : World} {v : Value} {l : List Int} (h : FrI B w v l) : RdI w v l := h w (Fr.refl _ _)
theorem FrW.rd {B : Nat} {w : World} {v : Value} {l : List Ent} (h : FrW B w v l) : RdW w v l := h w (Fr.refl _ _)
theorem FrI.fr {B : Nat} {w w' : World} {v : Value} {l : List Int} (h : FrI B w v l) (hf : Fr B w w') : FrI B w' v l := fun w'' h2 => h w'' (hf.trans h2)
theorem FrW.fr {B : Nat} {w w' : World} {v : Value} {l : List Ent} (h : FrW B w v l) (hf : Fr B w w') : FrW B w' v l := fun w'' h2 => h w'' (hf.trans h2)
theorem ownI_fr {B : Nat} {w : World} {v : Value} {l : List Int} (h : OwnI B w v l) : FrI B w v l := fun _ hf => (h.fr hf).rd
theorem ownW_fr {B : Nat} {w : World} {v : Value} {l : List Ent} (h : OwnW B w v l) : FrW B w v l := fun _ hf => (h.fr hf).rd
theorem FrI.mono {B B' : Nat} {w : World} {v : Value} {l : List Int} (h : FrI B' w v l) (hb : B ≤ B') : FrI B w v l := fun w'' h2 => h w'' (h2.mono hb)
theorem FrW.mono {B B' : Nat} {w : World} {v : Value} {l : List Ent} (h : FrW B' w v l) (hb : B ≤ B') : FrW B w v l := fun w'' h2 => h w'' (h2.mono hb)
theorem FrI.nil (B : Nat) (w : World) : FrI B w (.slice none 0 0) [] := fun _ _ => RdG.nil hlI _
theorem FrW.nil (B : Nat) (w : World) : FrW B w (.slice none 0 0) [] := fun _ _ => RdG.nil hlW _
theorem FrI.shape {B : Nat} {w : World} {v : Value} {l : List Int} (h : FrI B w v l) : ∃ (a : Option Addr) (n c : Nat), v = .slice a n c := by obtain ⟨a, c, h, _⟩ := h.rd.shape; exact ⟨a, _, c, h⟩
theorem FrW.shape {B : Nat} {w : World} {v : Value} {l : List Ent} (h : FrW B w v l) : ∃ (a : Option Addr) (n c : Nat), v = .slice a n c := by obtain ⟨a, c, h, _⟩ := h.rd.shape; exact ⟨a, _, c, h⟩

/-! Insert and Weigh in ascending lists. -/
theorem oInsert (v : Value) (l : List Int) (n : Int) (w : World) (h : RdI w v l) (hs : MM.Srt MM.kI l) (hl : l.length ≤ 1000000) :
    Calls Tryz.prog 58 #[v, .int .i64 n] w fun e w' => ∃ v', e = .returned v' ∧ FrI w.heap.size w' v' (MM.insI n l) ∧ Below w.heap.size w w' :=
  (rInsert v l n w h hl).mono fun _ _ ⟨v', h1, h2, h3⟩ => ⟨v', h1, by rw [← insF_srt hs]; exact ownI_fr h2, h3⟩
theorem oWeigh (v : Value) (l : List Ent) (s t x a n : Int) (w : World) (h : RdW w v l) (hs : MM.Srt MM.kW l) (hl : l.length ≤ 1000000) :
    Calls Tryz.prog 59 #[v, wv s t x a n] w fun e w' => ∃ v', e = .returned v' ∧ FrW w.heap.size w' v' (MM.insW (s, t, x, a, n) l) ∧ Below w.heap.size w w' :=
  (rWeigh v l s t x a n w h hl).mono fun _ _ ⟨v', h1, h2, h3⟩ => ⟨v', h1, by rw [← whF_srt hs]; exact ownW_fr h2, h3⟩

set_option maxRecDepth 100000 in
set_option maxHeartbeats 8000000 in
theorem rOf (ad nu : Int) (u : Value) (cs : List Chg) (w : World) (h : RdC w u cs) (hv : JM.errP ad nu cs = 0) :
    Calls Tryz.prog 26 #[pv ad nu u] w fun e w' => ∃ v, e = .returned v ∧ FrS w.heap.size w' v (MM.ofP ad nu cs) ∧ Below w.heap.size w w' := by
  obtain ⟨au, cu, rfl, hcu, hlu⟩ := h.shape
  obtain ⟨w3, hw3, hB, hsz, hP, hZ, hS⟩ := of_boxes w ad nu (.slice au cs.length cu)
  have H := Lib.hid h
  have HV := Lib.hid (MM.errP_zero hv).2.2
  have HOK := Lib.hid (fun j => show MM.OkS (MM.ofP ad nu (cs.take j)) by
    obtain ⟨h1, h2, h3, h4⟩ := MM.errP_zero hv
    have h5 := (MM.errS_zero h4).1
    have hg : ∀ (cs : List Chg) (s : Sm), (∀ x ∈ cs, JM.errCh x = 0) → MM.OkS s → MM.OkS (cs.foldl (MM.stp ad nu) s) := by
      intro cs
      induction cs with
      | nil => intro s _ h; exact h
      | cons x cs ih => intro s hx h; exact ih _ (fun y hy => hx y (by simp [hy])) (MM.okS_stp h (by omega) (by omega) (hx x (by simp)))
    exact hg (cs.take j) MM.emp (fun x hx => (h5 x (List.mem_of_mem_take hx)).1) MM.okS_emp)
  have HW := Lib.hid hw3
  have HB := Lib.hid hB
  have HSZ := Lib.hid hsz
  have HP := Lib.hid hP
  have HZ := Lib.hid hZ
  have HS := Lib.hid hS
  clear h hv hw3 hB hsz hP hZ hS hcu hlu
  go_enter Tryz.func26, Tryz.ntmps26
  go_wp2
  rw [HW.out]
  go_loopw [4] (fun i wr => ∃ (j : Nat) (vJ vR vW : Value) (S : Sm), j ≤ cs.length ∧ i = .int .i64 j ∧ Hid (S = MM.ofP ad nu (cs.take j)) ∧ Hid (Below w.heap.size w wr) ∧ Hid (w3.heap.size ≤ wr.heap.size) ∧
    Hid (wr.heap[w.heap.size]? = some (.cells (pCells ad nu (.slice au cs.length cu)) 45 (0, 0))) ∧
    Hid (wr.heap[w.heap.size + 1]? = some (.cells (s9 (.slice none 0 0) (.slice none 0 0) (.slice none 0 0) 0 0 0 0 0 0) 37 (0, 0))) ∧
    Hid (wr.heap[w.heap.size + 1 + 1]? = some (.cells (s9 vJ vR vW S.k S.c S.f S.v S.a S.n) 37 (0, 0))) ∧
    Hid (FrI w3.heap.size wr vJ S.J) ∧ Hid (FrI w3.heap.size wr vR S.R) ∧ Hid (FrW w3.heap.size wr vW S.W)) (fun i _ => cs.length - (intOf i).toNat)
  case atStart => exact ⟨0, _, _, _, MM.emp, Nat.zero_le _, rfl, Lib.hid (by rw [List.take_zero]; rfl), HB, Lib.hid (Nat.le_refl _), HP, HZ, HS, Lib.hid (FrI.nil _ _), Lib.hid (FrI.nil _ _), Lib.hid (FrW.nil _ _)⟩
  case round =>
    obtain ⟨j, vJ, vR, vW, S, hj, rfl, hraw, hb, hs3, hp, hz, hsb, hoj, hor, how⟩ := hrel
    have HOS := Lib.hid (show MM.OkS S by rw [hraw.out]; exact HOK.out j)
    have HLN := Lib.hid (okS_len HOS.out)
    obtain ⟨Jl, Rl, Wl, rk, rc, rf, rv, ra, rn⟩ := S
    dsimp only at hsb hoj hor how HLN
    clear HB HW HP HZ HS
    obtain ⟨ai, li, ci, hvi⟩ := hoj.out.shape
    obtain ⟨ar, lr, cr, hvr⟩ := hor.out.shape
    obtain ⟨ae, le, ce, hve⟩ := how.out.shape
    subst hvi hvr hve
    obtain ⟨⟨p0, p1, p2⟩, _⟩ := row3_at hp.out
    by_cases hlt : j < cs.length
    · obtain ⟨⟨k, s, t, v, x, y, z⟩, hx⟩ : ∃ m : Chg, cs[j]? = some m := ⟨_, List.getElem?_eq_getElem hlt⟩
      obtain ⟨b, o, hi, c0, c1, c2, c3, c4, c5, c6⟩ := atC (H.out.below hb.out) j _ _ _ _ _ _ _ hx
      have hq : (j : Int) < (cs.length : Int) := by omega
      have hjb : (j : Int) ≤ 1000000 := by have := HV.out.1; omega
      have HN := Lib.hid (show MM.stp ad nu ⟨Jl, Rl, Wl, rk, rc, rf, rv, ra, rn⟩ (k, s, t, v, x, y, z) = MM.ofP ad nu (cs.take (j + 1)) by rw [MM.ofP_take ad nu cs j _ hx, hraw.out])
      have hc := MM.chg_zero ((MM.errS_zero HV.out.2).1 _ (List.mem_of_getElem? hx)).1
      have hfr := below_fresh wr (.cells (cCells k s t v x y z) 50)
      have hxb := heap_alloc_new wr (.cells (cCells k s t v x y z) 50)
      obtain ⟨X, hX⟩ : ∃ X, X = wr.heap.size := ⟨_, rfl⟩
      obtain ⟨wn, hwn⟩ : ∃ wn, wr.alloc (.cells (cCells k s t v x y z) 50) = wn := ⟨_, rfl⟩
      have hXn : X < wn.heap.size := by rw [hX, ← hwn]; simp
      rw [hwn] at hfr hxb
      rw [← hX] at hxb
      have HXB := Lib.hid hxb
      have HXW := Lib.hid (show w.heap.size + 1 + 1 < X by have := hs3.out; have := HSZ.out; omega)
      have HP1 := Lib.hid (below_block hp.out hfr)
      have HZ1 := Lib.hid (below_block hz.out hfr)
      have HS1 := Lib.hid (below_block hsb.out hfr)
      have HJ1 := Lib.hid (hoj.out.fr (Fr.of hfr))
      have HR1 := Lib.hid (hor.out.fr (Fr.of hfr))
      have HW1 := Lib.hid (how.out.fr (Fr.of hfr))
      have HB1 := Lib.hid (bnext hb.out hfr)
      have HSZ1 := Lib.hid (Nat.le_trans hs3.out hfr.size)
      have HWN := Lib.hid hwn
      have HXE := Lib.hid hX
      clear hfr hxb hwn hb hs3 hp hz hsb hoj hor how hraw hX hx hXn
      go_upto_region 6 with fail
      rw [HWN.out, ← HXE.out]
      clear HWN HXE c0 c1 c2 c3 c4 c5 c6 hi p0 p1 p2
      obtain ⟨⟨p0, p1, p2⟩, _⟩ := row3_at HP1.out
      obtain ⟨x0, x1, x2, x3, x4, x5, x6⟩ := row7_at HXB.out
      obtain ⟨⟨z0, z1, z2, z3, z4, z5, z6, z7, z8⟩, f0, f1, f2, f3, f4, f5, f6, f7, f8⟩ := row9_at HS1.out
      rcases hc with ⟨rfl, h1, h2, rfl⟩ | ⟨rfl, h1⟩ | ⟨rfl, h1, h2, h3⟩ | ⟨rfl, h1, h2⟩
      · clear h1 h2
        have HN := Lib.hid (show (⟨MM.insI s Jl, Rl, MM.insW (s, t, 0, ad, nu) Wl, rk, rc, rf, rv, ra, rn⟩ : Sm) = MM.ofP ad nu (cs.take (j + 1)) by rw [← HN.out]; rfl)
        go_wp2_with fail
        refine (oInsert _ Jl s wn HJ1.out.rd HOS.out.j HLN.out.1).mono ?_
        rintro e wq ⟨vq, rfl, hrq, hbq⟩
        obtain ⟨aq, lq, cq, hvq⟩ := hrq.shape
        subst hvq
        have hs1 := below_block HS1.out hbq
        have hp1 := below_block HP1.out hbq
        have hz1 := below_block HZ1.out hbq
        have hx1 := below_block HXB.out hbq
        have hsz := Nat.le_trans HSZ1.out hbq.size
        have hb1 := bnext HB1.out hbq
        have hj1 := hrq.mono HSZ1.out
        have hr1 := HR1.out.fr (Fr.of hbq)
        have hw1 := HW1.out.fr (Fr.of hbq)
        clear p0 p1 p2 x0 x1 x2 x3 x4 x5 x6 z0 z1 z2 z3 z4 z5 z6 z7 z8 f0 f1 f2 f3 f4 f5 f6 f7 f8
        obtain ⟨⟨z0, z1, z2, z3, z4, z5, z6, z7, z8⟩, f0, f1, f2, f3, f4, f5, f6, f7, f8⟩ := row9_at hs1
        obtain ⟨⟨p0, p1, p2⟩, _⟩ := row3_at hp1
        obtain ⟨x0, x1, x2, x3, x4, x5, x6⟩ := row7_at hx1
        have hX1 : ¬ X = w.heap.size + 1 + 1 := by have := HXW.out; omega
        have hX2 : ¬ w.heap.size = w.heap.size + 1 + 1 := by omega
        have hs2 : (wq.setCell ⟨w.heap.size + 1 + 1, 0, none⟩ (.slice aq lq cq)).heap[w.heap.size + 1 + 1]? = some (.cells (s9 (.slice aq lq cq) (.slice ar lr cr) (.slice ae le ce) rk rc rf rv ra rn) 37 (0, 0)) := heap_setCell_same wq _ 0 _ _ _ hs1
        have ho2 : Only (w.heap.size + 1 + 1) wq (wq.setCell ⟨w.heap.size + 1 + 1, 0, none⟩ (.slice aq lq cq)) := Only.set 0 _
        have HS2 := Lib.hid hs2
        have HP2 := Lib.hid (ho2.at hp1 (by omega))
        have HZ2 := Lib.hid (ho2.at hz1 (by omega))
        have HX2 := Lib.hid (ho2.at hx1 (by have := HXW.out; omega))
        have HJ2 := Lib.hid (hj1.fr (Fr.only ho2 (by have := HSZ.out; omega)))
        have HR2 := Lib.hid (hr1.fr (Fr.only ho2 (by have := HSZ.out; omega)))
        have HW2 := Lib.hid (hw1.fr (Fr.only ho2 (by have := HSZ.out; omega)))
        have HB2 := Lib.hid (hb1.trans (ho2.below (by omega) hb1.size))
        have HSZ2 := Lib.hid (Nat.le_trans hsz ho2.size)
        clear hrq hbq hs1 hp1 hz1 hx1 hsz hb1 hj1 hr1 hw1 hs2 ho2 HS1 HP1 HZ1 HXB HJ1 HR1 HW1 HB1 HSZ1
        go_wp2_with fail
        generalize (wq.setCell ⟨w.heap.size + 1 + 1, 0, none⟩ (.slice aq lq cq)) = w3' at HS2 HP2 HZ2 HX2 HJ2 HR2 HW2 HB2 HSZ2 ⊢
        clear hX1 hX2 p0 p1 p2 x0 x1 x2 x3 x4 x5 x6 z0 z1 z2 z3 z4 z5 z6 z7 z8 f0 f1 f2 f3 f4 f5 f6 f7 f8
        obtain ⟨⟨p0, p1, p2⟩, _⟩ := row3_at HP2.out
        obtain ⟨x0, x1, x2, x3, x4, x5, x6⟩ := row7_at HX2.out
        obtain ⟨⟨z0, z1, z2, z3, z4, z5, z6, z7, z8⟩, f0, f1, f2, f3, f4, f5, f6, f7, f8⟩ := row9_at HS2.out
        go_wp2_with fail
        refine (oWeigh _ Wl s t 0 ad nu w3' HW2.out.rd HOS.out.w HLN.out.2.2).mono ?_
        rintro e wq ⟨vq, rfl, hrq, hbq⟩
        obtain ⟨au, lu, cu, hvq⟩ := hrq.shape
        subst hvq
        have hs1 := below_block HS2.out hbq
        have hp1 := below_block HP2.out hbq
        have hz1 := below_block HZ2.out hbq
        have hx1 := below_block HX2.out hbq
        have hsz := Nat.le_trans HSZ2.out hbq.size
        have hb1 := bnext HB2.out hbq
        have hj1 := HJ2.out.fr (Fr.of hbq)
        have hr1 := HR2.out.fr (Fr.of hbq)
        have hw1 := hrq.mono HSZ2.out
        clear p0 p1 p2 x0 x1 x2 x3 x4 x5 x6 z0 z1 z2 z3 z4 z5 z6 z7 z8 f0 f1 f2 f3 f4 f5 f6 f7 f8
        obtain ⟨⟨z0, z1, z2, z3, z4, z5, z6, z7, z8⟩, f0, f1, f2, f3, f4, f5, f6, f7, f8⟩ := row9_at hs1
        obtain ⟨⟨p0, p1, p2⟩, _⟩ := row3_at hp1
        obtain ⟨x0, x1, x2, x3, x4, x5, x6⟩ := row7_at hx1
        have hX1 : ¬ X = w.heap.size + 1 + 1 := by have := HXW.out; omega
        have hX2 : ¬ w.heap.size = w.heap.size + 1 + 1 := by omega
        have hs2 : (wq.setCell ⟨w.heap.size + 1 + 1, 2, none⟩ (.slice au lu cu)).heap[w.heap.size + 1 + 1]? = some (.cells (s9 (.slice aq lq cq) (.slice ar lr cr) (.slice au lu cu) rk rc rf rv ra rn) 37 (0, 0)) := heap_setCell_same wq _ 2 _ _ _ hs1
        have ho2 : Only (w.heap.size + 1 + 1) wq (wq.setCell ⟨w.heap.size + 1 + 1, 2, none⟩ (.slice au lu cu)) := Only.set 2 _
        clear HS2 HP2 HZ2 HX2 HJ2 HR2 HW2 HB2 HSZ2
        have HS2 := Lib.hid hs2
        have HP2 := Lib.hid (ho2.at hp1 (by omega))
        have HZ2 := Lib.hid (ho2.at hz1 (by omega))
        have HX2 := Lib.hid (ho2.at hx1 (by have := HXW.out; omega))
        have HJ2 := Lib.hid (hj1.fr (Fr.only ho2 (by have := HSZ.out; omega)))
        have HR2 := Lib.hid (hr1.fr (Fr.only ho2 (by have := HSZ.out; omega)))
        have HW2 := Lib.hid (hw1.fr (Fr.only ho2 (by have := HSZ.out; omega)))
        have HB2 := Lib.hid (hb1.trans (ho2.below (by omega) hb1.size))
        have HSZ2 := Lib.hid (Nat.le_trans hsz ho2.size)
        clear hrq hbq hs1 hp1 hz1 hx1 hsz hb1 hj1 hr1 hw1 hs2 ho2
        go_wp2_with fail
        generalize (wq.setCell ⟨w.heap.size + 1 + 1, 2, none⟩ (.slice au lu cu)) = w4' at HS2 HP2 HZ2 HX2 HJ2 HR2 HW2 HB2 HSZ2 ⊢
        clear hX1 hX2 p0 p1 p2 x0 x1 x2 x3 x4 x5 x6 z0 z1 z2 z3 z4 z5 z6 z7 z8 f0 f1 f2 f3 f4 f5 f6 f7 f8
        go_wp2
        go_roundw
        case rel => exact ⟨j + 1, _, _, _, _, by omega, by go_num, HN, HB2, HSZ2, HP2, HZ2, HS2, HJ2, HR2, HW2⟩
        case measure => simp [intOf]; omega
      · clear h1
        have HN := Lib.hid (show (⟨Jl, MM.insI s Rl, Wl, rk, rc, rf, rv, ra, rn⟩ : Sm) = MM.ofP ad nu (cs.take (j + 1)) by rw [← HN.out]; rfl)
        go_wp2_with fail
        refine (oInsert _ Rl s wn HR1.out.rd HOS.out.r HLN.out.2.1).mono ?_
        rintro e wq ⟨vq, rfl, hrq, hbq⟩
        obtain ⟨aq, lq, cq, hvq⟩ := hrq.shape
        subst hvq
        have hs1 := below_block HS1.out hbq
        have hp1 := below_block HP1.out hbq
        have hz1 := below_block HZ1.out hbq
        have hx1 := below_block HXB.out hbq
        have hsz := Nat.le_trans HSZ1.out hbq.size
        have hb1 := bnext HB1.out hbq
        have hj1 := HJ1.out.fr (Fr.of hbq)
        have hr1 := hrq.mono HSZ1.out
        have hw1 := HW1.out.fr (Fr.of hbq)
        clear p0 p1 p2 x0 x1 x2 x3 x4 x5 x6 z0 z1 z2 z3 z4 z5 z6 z7 z8 f0 f1 f2 f3 f4 f5 f6 f7 f8
        obtain ⟨⟨z0, z1, z2, z3, z4, z5, z6, z7, z8⟩, f0, f1, f2, f3, f4, f5, f6, f7, f8⟩ := row9_at hs1
        obtain ⟨⟨p0, p1, p2⟩, _⟩ := row3_at hp1
        obtain ⟨x0, x1, x2, x3, x4, x5, x6⟩ := row7_at hx1
        have hX1 : ¬ X = w.heap.size + 1 + 1 := by have := HXW.out; omega
        have hX2 : ¬ w.heap.size = w.heap.size + 1 + 1 := by omega
        have hs2 : (wq.setCell ⟨w.heap.size + 1 + 1, 1, none⟩ (.slice aq lq cq)).heap[w.heap.size + 1 + 1]? = some (.cells (s9 (.slice ai li ci) (.slice aq lq cq) (.slice ae le ce) rk rc rf rv ra rn) 37 (0, 0)) := heap_setCell_same wq _ 1 _ _ _ hs1
        have ho2 : Only (w.heap.size + 1 + 1) wq (wq.setCell ⟨w.heap.size + 1 + 1, 1, none⟩ (.slice aq lq cq)) := Only.set 1 _
        have HS2 := Lib.hid hs2
        have HP2 := Lib.hid (ho2.at hp1 (by omega))
        have HZ2 := Lib.hid (ho2.at hz1 (by omega))
        have HX2 := Lib.hid (ho2.at hx1 (by have := HXW.out; omega))
        have HJ2 := Lib.hid (hj1.fr (Fr.only ho2 (by have := HSZ.out; omega)))
        have HR2 := Lib.hid (hr1.fr (Fr.only ho2 (by have := HSZ.out; omega)))
        have HW2 := Lib.hid (hw1.fr (Fr.only ho2 (by have := HSZ.out; omega)))
        have HB2 := Lib.hid (hb1.trans (ho2.below (by omega) hb1.size))
        have HSZ2 := Lib.hid (Nat.le_trans hsz ho2.size)
        clear hrq hbq hs1 hp1 hz1 hx1 hsz hb1 hj1 hr1 hw1 hs2 ho2 HS1 HP1 HZ1 HXB HJ1 HR1 HW1 HB1 HSZ1
        go_wp2_with fail
        generalize (wq.setCell ⟨w.heap.size + 1 + 1, 1, none⟩ (.slice aq lq cq)) = w3' at HS2 HP2 HZ2 HX2 HJ2 HR2 HW2 HB2 HSZ2 ⊢
        clear hX1 hX2 p0 p1 p2 x0 x1 x2 x3 x4 x5 x6 z0 z1 z2 z3 z4 z5 z6 z7 z8 f0 f1 f2 f3 f4 f5 f6 f7 f8
        go_wp2
        go_roundw
        case rel => exact ⟨j + 1, _, _, _, _, by omega, by go_num, HN, HB2, HSZ2, HP2, HZ2, HS2, HJ2, HR2, HW2⟩
        case measure => simp [intOf]; omega
      · clear h1 h2 h3
        have HN := Lib.hid (show (⟨Jl, Rl, MM.insW (s, t, v, ad, nu) Wl, rk, rc, rf, rv, ra, rn⟩ : Sm) = MM.ofP ad nu (cs.take (j + 1)) by rw [← HN.out]; rfl)
        go_wp2_with fail
        refine (oWeigh _ Wl s t v ad nu wn HW1.out.rd HOS.out.w HLN.out.2.2).mono ?_
        rintro e wq ⟨vq, rfl, hrq, hbq⟩
        obtain ⟨aq, lq, cq, hvq⟩ := hrq.shape
        subst hvq
        have hs1 := below_block HS1.out hbq
        have hp1 := below_block HP1.out hbq
        have hz1 := below_block HZ1.out hbq
        have hx1 := below_block HXB.out hbq
        have hsz := Nat.le_trans HSZ1.out hbq.size
        have hb1 := bnext HB1.out hbq
        have hj1 := HJ1.out.fr (Fr.of hbq)
        have hr1 := HR1.out.fr (Fr.of hbq)
        have hw1 := hrq.mono HSZ1.out
        clear p0 p1 p2 x0 x1 x2 x3 x4 x5 x6 z0 z1 z2 z3 z4 z5 z6 z7 z8 f0 f1 f2 f3 f4 f5 f6 f7 f8
        obtain ⟨⟨z0, z1, z2, z3, z4, z5, z6, z7, z8⟩, f0, f1, f2, f3, f4, f5, f6, f7, f8⟩ := row9_at hs1
        obtain ⟨⟨p0, p1, p2⟩, _⟩ := row3_at hp1
        obtain ⟨x0, x1, x2, x3, x4, x5, x6⟩ := row7_at hx1
        have hX1 : ¬ X = w.heap.size + 1 + 1 := by have := HXW.out; omega
        have hX2 : ¬ w.heap.size = w.heap.size + 1 + 1 := by omega
        have hs2 : (wq.setCell ⟨w.heap.size + 1 + 1, 2, none⟩ (.slice aq lq cq)).heap[w.heap.size + 1 + 1]? = some (.cells (s9 (.slice ai li ci) (.slice ar lr cr) (.slice aq lq cq) rk rc rf rv ra rn) 37 (0, 0)) := heap_setCell_same wq _ 2 _ _ _ hs1
        have ho2 : Only (w.heap.size + 1 + 1) wq (wq.setCell ⟨w.heap.size + 1 + 1, 2, none⟩ (.slice aq lq cq)) := Only.set 2 _
        have HS2 := Lib.hid hs2
        have HP2 := Lib.hid (ho2.at hp1 (by omega))
        have HZ2 := Lib.hid (ho2.at hz1 (by omega))
        have HX2 := Lib.hid (ho2.at hx1 (by have := HXW.out; omega))
        have HJ2 := Lib.hid (hj1.fr (Fr.only ho2 (by have := HSZ.out; omega)))
        have HR2 := Lib.hid (hr1.fr (Fr.only ho2 (by have := HSZ.out; omega)))
        have HW2 := Lib.hid (hw1.fr (Fr.only ho2 (by have := HSZ.out; omega)))
        have HB2 := Lib.hid (hb1.trans (ho2.below (by omega) hb1.size))
        have HSZ2 := Lib.hid (Nat.le_trans hsz ho2.size)
        clear hrq hbq hs1 hp1 hz1 hx1 hsz hb1 hj1 hr1 hw1 hs2 ho2 HS1 HP1 HZ1 HXB HJ1 HR1 HW1 HB1 HSZ1
        go_wp2_with fail
        generalize (wq.setCell ⟨w.heap.size + 1 + 1, 2, none⟩ (.slice aq lq cq)) = w3' at HS2 HP2 HZ2 HX2 HJ2 HR2 HW2 HB2 HSZ2 ⊢
        clear hX1 hX2 p0 p1 p2 x0 x1 x2 x3 x4 x5 x6 z0 z1 z2 z3 z4 z5 z6 z7 z8 f0 f1 f2 f3 f4 f5 f6 f7 f8
        go_wp2
        go_roundw
        case rel => exact ⟨j + 1, _, _, _, _, by omega, by go_num, HN, HB2, HSZ2, HP2, HZ2, HS2, HJ2, HR2, HW2⟩
        case measure => simp [intOf]; omega
      · clear h1 h2
        have HN := Lib.hid (show (⟨Jl, Rl, Wl, x, y, z, v, ad, nu⟩ : Sm) = MM.ofP ad nu (cs.take (j + 1)) by rw [← HN.out]; rfl)
        have hs2 : ((((((wn.setCell ⟨w.heap.size + 1 + 1, 3, none⟩ (.int .i64 x)).setCell ⟨w.heap.size + 1 + 1, 4, none⟩ (.int .i64 y)).setCell ⟨w.heap.size + 1 + 1, 5, none⟩ (.int .i64 z)).setCell ⟨w.heap.size + 1 + 1, 6, none⟩ (.int .i64 v)).setCell ⟨w.heap.size + 1 + 1, 7, none⟩ (.int .i64 ad)).setCell ⟨w.heap.size + 1 + 1, 8, none⟩ (.int .i64 nu)).heap[w.heap.size + 1 + 1]? = some (.cells (s9 (.slice ai li ci) (.slice ar lr cr) (.slice ae le ce) x y z v ad nu) 37 (0, 0)) := by
          have t1 := heap_setCell_same wn (w.heap.size + 1 + 1) 3 _ _ (.int .i64 x) HS1.out
          have t2 := heap_setCell_same _ (w.heap.size + 1 + 1) 4 _ _ (.int .i64 y) t1
          have t3 := heap_setCell_same _ (w.heap.size + 1 + 1) 5 _ _ (.int .i64 z) t2
          have t4 := heap_setCell_same _ (w.heap.size + 1 + 1) 6 _ _ (.int .i64 v) t3
          have t5 := heap_setCell_same _ (w.heap.size + 1 + 1) 7 _ _ (.int .i64 ad) t4
          exact heap_setCell_same _ (w.heap.size + 1 + 1) 8 _ _ (.int .i64 nu) t5
        have ho2 : Only (w.heap.size + 1 + 1) wn ((((((wn.setCell ⟨w.heap.size + 1 + 1, 3, none⟩ (.int .i64 x)).setCell ⟨w.heap.size + 1 + 1, 4, none⟩ (.int .i64 y)).setCell ⟨w.heap.size + 1 + 1, 5, none⟩ (.int .i64 z)).setCell ⟨w.heap.size + 1 + 1, 6, none⟩ (.int .i64 v)).setCell ⟨w.heap.size + 1 + 1, 7, none⟩ (.int .i64 ad)).setCell ⟨w.heap.size + 1 + 1, 8, none⟩ (.int .i64 nu)) := ((((((Only.set 3 _).trans (Only.set 4 _)).trans (Only.set 5 _)).trans (Only.set 6 _)).trans (Only.set 7 _)).trans (Only.set 8 _))
        have HS2 := Lib.hid hs2
        have HP2 := Lib.hid (ho2.at HP1.out (by omega))
        have HZ2 := Lib.hid (ho2.at HZ1.out (by omega))
        have HJ2 := Lib.hid (HJ1.out.fr (Fr.only ho2 (by have := HSZ.out; omega)))
        have HR2 := Lib.hid (HR1.out.fr (Fr.only ho2 (by have := HSZ.out; omega)))
        have HW2 := Lib.hid (HW1.out.fr (Fr.only ho2 (by have := HSZ.out; omega)))
        have HB2 := Lib.hid (HB1.out.trans (ho2.below (by omega) HB1.out.size))
        have HSZ2 := Lib.hid (Nat.le_trans HSZ1.out ho2.size)
        have hX1 : ¬ X = w.heap.size + 1 + 1 := by have := HXW.out; omega
        have hX2 : ¬ w.heap.size = w.heap.size + 1 + 1 := by omega
        clear hs2 ho2
        go_wp2
        go_roundw
        case rel => exact ⟨j + 1, _, _, _, _, by omega, by go_num, HN, HB2, HSZ2, HP2, HZ2, HS2, HJ2, HR2, HW2⟩
        case measure => simp [intOf]; omega
    · have hq : ¬ ((j : Int) < (cs.length : Int)) := by omega
      have HRAW := Lib.hid (show (⟨Jl, Rl, Wl, rk, rc, rf, rv, ra, rn⟩ : Sm) = MM.ofP ad nu cs by rw [hraw.out, List.take_of_length_le (by omega)])
      obtain ⟨⟨z0, z1, z2, z3, z4, z5, z6, z7, z8⟩, _⟩ := row9_at hsb.out
      obtain ⟨⟨y0, y1, y2, y3, y4, y5, y6, y7, y8⟩, g0, g1, g2, g3, g4, g5, g6, g7, g8⟩ := row9_at hz.out
      clear hraw
      go_wp2
      have hput := row9_put hz.out (.slice ai li ci) (.slice ar lr cr) (.slice ae le ce) (.int .i64 rk) (.int .i64 rc) (.int .i64 rf) (.int .i64 rv) (.int .i64 ra) (.int .i64 rn) w.heap.size (by omega)
      have hon := onlyc9 (w := wr) (g := w.heap.size + 1) (.slice ai li ci) (.slice ar lr cr) (.slice ae le ce) (.int .i64 rk) (.int .i64 rc) (.int .i64 rf) (.int .i64 rv) (.int .i64 ra) (.int .i64 rn)
      refine rof_ret rfl hput.1 rfl ⟨_, rfl, ?_, hb.out.trans hput.2⟩
      rw [← HRAW.out]
      intro w'' hf
      have hlast := (Fr.only (B := w3.heap.size) hon (by have := HSZ.out; omega)).trans (hf.mono (by have := HSZ.out; omega))
      exact ⟨_, _, _, rfl, hoj.out _ hlast, hor.out _ hlast, how.out _ hlast⟩

end Go.Proofs.YtkaafbdhgekeeaaGreat
