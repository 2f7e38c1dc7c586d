/-
  The program's calls graph.contains, keep, the literals of Contract and Prune, Build, Contract, Prune. Conditions: the graph reads, and its nodes are parts of one configuration.
-/
import Derived.Shelf.Abstract
import Derived.Test.YtkgkhofkhjgnbaaGreatGCn
import Derived.Test.YtkgkhofkhjgnbaaGreatTB2
namespace Go.Proofs.YtkgkhofkhjgnbaaGreat
open Go.RowKit Go.Joins Go.Shelf
open JM (Chg)
open CM (Fp)
open VM (Ent)

theorem OwnGr.below {base : Nat} {w w' : World} {v : Value} {L : List (List Fp)} (h : OwnGr base w v L) (hb : Below w.heap.size w w') : OwnGr base w' v L := by
  obtain ⟨nv, ev, rfl, h1, h2⟩ := h
  exact ⟨nv, ev, rfl, h1.below hb (fun _ _ q => q.below hb), h2.below hb⟩
theorem OwnGr.rd {base : Nat} {w : World} {v : Value} {L : List (List Fp)} (h : OwnGr base w v L) : RdGr w v L := by
  obtain ⟨nv, ev, rfl, h1, h2⟩ := h
  exact ⟨nv, ev, rfl, h1.rd.imp (fun _ _ q => q.rd), h2.rd⟩
theorem OwnGr.mono {base b2 : Nat} {w : World} {v : Value} {L : List (List Fp)} (h : OwnGr base w v L) (hle : b2 ≤ base) : OwnGr b2 w v L := by
  obtain ⟨nv, ev, rfl, h1, h2⟩ := h
  obtain ⟨ps, g1, g2, g3⟩ := h1
  exact ⟨nv, ev, rfl, ⟨ps, g1.mono hle, fun p hp => (g2 p hp).mono hle, g3⟩, h2.mono hle⟩
theorem OwnGr.shape {base : Nat} {w : World} {v : Value} {L : List (List Fp)} (h : OwnGr base w v L) : ∃ a l c b m d, v = .agg #[.slice a l c, .slice b m d] := by
  obtain ⟨nv, ev, rfl, h1, h2⟩ := h
  obtain ⟨a, c, rfl, _, _⟩ := h1.rd.shape
  obtain ⟨b, d, rfl, _, _⟩ := h2.rd.shape
  exact ⟨_, _, _, _, _, _, rfl⟩
/-- A graph stored whole into a block that holds two slices. -/
theorem OwnGr.put {base B : Nat} {w : World} {g : Nat} {a b a' b' : Option Addr} {la ca lb cb l c m d : Nat} {L : List (List Fp)} (h : OwnGr base w (.agg #[.slice a' l c, .slice b' m d]) L)
    (hg : w.heap[g]? = some (.cells #[.slice a la ca, .slice b lb cb] 31 (0, 0))) (hB : B ≤ g) :
    ((w.setCell ⟨g, 0, none⟩ (.slice a' l c)).setCell ⟨g, 1, none⟩ (.slice b' m d)).heap[g]? = some (.cells #[.slice a' l c, .slice b' m d] 31 (0, 0)) ∧
      Below B w ((w.setCell ⟨g, 0, none⟩ (.slice a' l c)).setCell ⟨g, 1, none⟩ (.slice b' m d)) ∧ OwnGr base ((w.setCell ⟨g, 0, none⟩ (.slice a' l c)).setCell ⟨g, 1, none⟩ (.slice b' m d)) (.agg #[.slice a' l c, .slice b' m d]) L := by
  obtain ⟨p1, p2, p3⟩ := row2_put hg (.slice a' l c) (.slice b' m d) B hB
  refine ⟨p1, p2, ?_⟩
  obtain ⟨nv, ev, he, h1, h2⟩ := h
  cases he
  exact ⟨_, _, rfl, h1.keepX (by decide) p3 (fun u x h => h.keep p3 (by decide) (by decide)), ownG_keepX h2 (by decide) p3⟩

set_option maxRecDepth 100000 in
set_option maxHeartbeats 1000000 in
theorem cContn (va vb : Value) (fa fb : List Fp) (w : World) (h1 : RdF w va fa) (h2 : RdF w vb fb) (o1 : CM.Ok fa) (o2 : CM.Ok fb) :
    Calls Tryz.prog 43 #[va, vb] w fun e w' => e = .returned (.bool (CM.cons fa fb)) ∧ Below w.heap.size w w' := by
  have HW := Lib.hid (cWithin vb va va fb fa fa w h2 h1 h1 o2 o1 o1)
  rw [IM.cons_refl fa, Bool.and_true] at HW
  generalize CM.cons fa fb = R at *
  clear h1 h2 o1 o2
  go_enter Tryz.func43, Tryz.ntmps43
  go_wp2_with fail
  refine HW.out.mono ?_
  rintro e w1 ⟨rfl, hb⟩
  go_wp2
  go_ret
  exact ⟨rfl, hb⟩

/-- What 'wanted' answers of a part x, in every world behind w. -/
def Wants (F : Nat) (bp : Value) (p : List Fp) (w : World) (q : List Fp → Bool) : Prop := ∀ (u : Value) (x : List Fp) (wx : World), Below w.heap.size w wx → RdF wx u x → CM.Ok x → CM.cons p x = true →
  Calls Tryz.prog F (#[u] ++ #[bp]) wx fun e w' => e = .returned (.bool (q x)) ∧ Below wx.heap.size wx w'

theorem kp_ret {R : Ending → World → Prop} {a : Act} {w : World} {g : Nat} {x0 x1 : Value} (hp : a.tmps.getD 4 undef = .pointer (some ⟨g, 0, none⟩)) (hg : w.heap[g]? = some (.cells #[x0, x1] 31 (0, 0)))
    (hd : a.defers = []) (hR : R (.returned (.agg #[x0, x1])) w) : bodyPost Tryz.prog Tryz.f41 R .ret a w :=
  bodyPost_ret (results_cell_row (P := Tryz.prog) rfl a.tmps w g 31 _ _ _ hp hg Tryz.underlying31 rfl (by kernel_rfl)) hd hR
set_option maxRecDepth 100000 in
set_option maxHeartbeats 8000000 in
theorem cKeep (F : Nat) (bp : Value) (eF : ∀ args w, (callFunc F args).run Tryz.prog w = .ok (.enter F args) w) (p : List Fp) (gv : Value) (L : List (List Fp)) (w : World) (q : List Fp → Bool) (op : CM.Ok p) (gd : IM.Gd p L) (h : RdGr w gv L) (hq : Wants F bp p w q) :
    Calls Tryz.prog 41 #[gv, .func (.func F) #[] #[bp]] w fun e w' => ∃ v, e = .returned v ∧ OwnGr w.heap.size w' v (L.filter q) ∧ Below w.heap.size w w' := by
  obtain ⟨mv, ev, rfl, hm, he⟩ := h
  obtain ⟨ma, mc, rfl, _, _⟩ := hm.shape
  obtain ⟨ea, ec, rfl, _, _⟩ := he.shape
  generalize (IM.edgK L).length = en at *
  clear he
  have hz := heap_alloc_new (w.alloc (.cells #[.slice ma L.length mc, .slice ea en ec] 31)) (.cells #[.slice none 0 0, .slice none 0 0] 31)
  have hy := heap_alloc_new w (.cells #[.slice ma L.length mc, .slice ea en ec] 31)
  have b1 := below_fresh w (.cells #[.slice ma L.length mc, .slice ea en ec] 31)
  have b2 := below_fresh (w.alloc (.cells #[.slice ma L.length mc, .slice ea en ec] 31)) (.cells #[.slice none 0 0, .slice none 0 0] 31)
  rw [World.size_alloc] at hz
  obtain ⟨w0, hw0⟩ : ∃ z, (w.alloc (.cells #[.slice ma L.length mc, .slice ea en ec] 31)).alloc (.cells #[.slice none 0 0, .slice none 0 0] 31) = z := ⟨_, rfl⟩
  rw [hw0] at hz b2
  have HY := Lib.hid (below_block hy b2)
  have HZ := Lib.hid hz
  have HB := Lib.hid (bnext b1 b2)
  have HW := Lib.hid hw0
  have HM := Lib.hid hm
  have HQ := Lib.hid hq
  have HGD := Lib.hid gd
  have HOP := Lib.hid op
  have hl : L.length ≤ 64 := gd.1
  clear hz hy b1 b2 hw0 hm hq gd op
  obtain ⟨⟨c0, c1⟩, _⟩ := row2F HY.out
  have hgt : ¬ (64 : Int) < (L.length : Int) := by omega
  go_enter Tryz.func41, Tryz.ntmps41
  go_upto_region 1 with fail
  rw [HW.out]
  go_wp2
  clear c0 c1 HY hgt
  go_loopw [5, 16] (fun v ix wr => ∃ i : Nat, i ≤ L.length ∧ ix = .int .i64 i ∧ Hid (OwnLs (OwnD w0.heap.size) 24 w0.heap.size wr v ((L.take i).filter q)) ∧ Hid (Below w0.heap.size w0 wr)) (fun _ ix _ => L.length - (intOf ix).toNat)
  case atStart => exact ⟨0, Nat.zero_le _, rfl, Lib.hid (by rw [List.take_zero]; exact OwnLs.nil _ _ _), Lib.hid (Below.refl _ _)⟩
  case round =>
    obtain ⟨i, hii, rfl, hoe, hbw⟩ := hrel
    obtain ⟨xa, xc, hev, _, _⟩ := hoe.out.rd.shape
    obtain ⟨xn, hen⟩ : ∃ xn, xn = ((L.take i).filter q).length := ⟨_, rfl⟩
    rw [← hen] at hev
    subst hev
    have HEN := Lib.hid hen
    clear hen
    by_cases hlt : i < L.length
    case neg =>
      have hq2 : ¬ ((i : Int) < (L.length : Int)) := by omega
      have hfo := hoe.out
      rw [List.take_of_length_le (by omega)] at hfo
      have HBE := Lib.hid (bnext HB.out hbw.out)
      have HED := Lib.hid (cConnect _ _ wr (hfo.rd.imp (fun _ _ q => q.rd)) p HOP.out (HGD.out.filter _))
      have HFO := Lib.hid hfo
      have HBL := Lib.hid hbw.out.size
      replace HZ := Lib.hid (below_block HZ.out hbw.out)
      clear hoe hfo hbw HM HQ HGD HOP
      go_wp2_with fail
      refine HED.out.mono ?_
      rintro e w2 ⟨v2, rfl, hr, hq⟩
      have hgr : OwnGr w.heap.size w2 (.agg #[.slice xa xn xc, v2]) (L.filter q) := OwnGr.mono (base := w0.heap.size) ⟨_, _, rfl, HFO.out.below hq (fun _ _ h => h.below hq), hr.mono HBL.out⟩ HB.out.size
      replace HZ := Lib.hid (below_block HZ.out hq)
      replace HBE := Lib.hid (bnext HBE.out hq)
      obtain ⟨fa', fc', hv2, _, _⟩ := hr.rd.shape
      generalize (IM.edgK (L.filter q)).length = m at hv2
      subst hv2
      have HGR := Lib.hid hgr
      clear hr hq HED hgr
      obtain ⟨⟨c0, c1⟩, f0, f1⟩ := row2F HZ.out
      go_wp2
      obtain ⟨p1, p2, p3⟩ := HGR.out.put HZ.out (B := w.heap.size) (by omega)
      exact kp_ret rfl p1 rfl ⟨_, rfl, p3, HBE.out.trans p2⟩
    have hq2 : (i : Int) < (L.length : Int) := by omega
    have hat := List.getElem?_eq_getElem hlt
    generalize L[i] = x at hat
    obtain ⟨xb, xo, xad, xl, xcp, hix, hxb, hxc, hxo⟩ := HM.out.at_ cfgE i x hat
    have HBW := Lib.hid (bnext HB.out hbw.out)
    have hxc := below_cell HBW.out hxc
    obtain ⟨ox, px⟩ := HGD.out.2 x (List.mem_of_getElem? hat)
    have HK := Lib.hid (HQ.out _ x wr HBW.out (hxo.below HBW.out) ox px)
    have HU := Lib.hid (fun w' (hb : Below w.heap.size w w') => gUnionO (.slice none 0 0) _ [] x w' (RdF.nil w') (hxo.below hb) (by simp) (by have := ox.nine; omega) (by simp) (all_len ox.all))
    rw [CM.nil_un] at HU
    cases hp : q x with
    | false =>
      have HNX := Lib.hid (filter_miss (p := q) hat hp)
      rw [hp] at HK
      clear hat hxo hp ox px HU
      go_wp2_with (go_at_fn F; refine HK.out.mono ?_; rintro e w2 ⟨rfl, hb2⟩; have HB2 := Lib.hid (bnext hbw.out hb2); have HO2 := Lib.hid (show OwnLs (OwnD w0.heap.size) 24 w0.heap.size w2 (.slice xa xn xc) ((L.take (i + 1)).filter q) by rw [HNX.out]; exact hoe.out.below hb2 (fun _ _ h => h.below hb2)); clear hb2 HK hoe hbw hxc)
      go_roundw
      case rel => exact ⟨i + 1, by omega, by go_num, HO2, HB2⟩
      case measure => simp [intOf]; omega
    | true =>
      have HNX := Lib.hid (filter_hit (p := q) hat hp)
      rw [hp] at HK
      clear hat hxo hp ox px
      obtain ⟨N9, hN9⟩ : ∃ N9, N9 = x.length := ⟨_, rfl⟩
      go_wp2_with (go_at_fn F; refine HK.out.mono ?_; rintro e w2 ⟨rfl, hb2⟩; have HB2 := Lib.hid (bnext hbw.out hb2); have HO2 := Lib.hid (hoe.out.below hb2 (fun _ _ h => h.below hb2)); clear hb2 HK hoe hbw hxc)
      refine (HU.out w2 (bnext HB.out HB2.out)).mono ?_
      rintro e w3 ⟨v3, rfl, hr3, hb3⟩
      obtain ⟨ua, uc, rfl, _, _⟩ := hr3.rd.shape
      have hr3 := hr3.mono (b2 := w0.heap.size) HB2.out.size
      rw [← hN9] at hr3
      obtain ⟨ps, hp1, hp2, hp3⟩ := HO2.out.below hb3 (fun _ _ h => h.below hb3)
      have hpl : ps.length ≤ 1073741824 := by
        have e1 := congrArg List.length hp3
        rw [List.length_map] at e1
        have e2 := List.length_filter_le q (L.take i)
        rw [List.length_take] at e2
        omega
      have HP2 := Lib.hid hp2
      have HP3 := Lib.hid hp3
      have HR3 := Lib.hid hr3
      have HB3 := Lib.hid (bnext HB2.out hb3)
      have hs2 := HB3.out.size
      clear hp2 hp3 hr3 hb3 HU HO2 HB2
      rw [← hN9]
      clear hN9
      go_wp2_with (at_builtin; refine wp_appG1 cfgE ((ua, N9, uc), x) rfl _ _ rfl rfl hp1 rfl hpl hs2 ?_)
      intro v8 w8 ho8 hb8 hk8 _
      obtain ⟨a8, l8, c8, hv8⟩ : ∃ a l c, v8 = .slice a l c := by obtain ⟨a, c, h, _⟩ := ho8.rd.shape; exact ⟨a, _, c, h⟩
      subst hv8
      have HB8 := Lib.hid (HB3.out.trans hb8)
      have HFO := Lib.hid (show OwnLs (OwnD w0.heap.size) 24 w0.heap.size w8 (.slice a8 l8 c8) ((L.take (i + 1)).filter q) by
        rw [HNX.out]
        exact OwnLs.snoc HP2.out HP3.out ho8 (fun u y hy => hy.keep hk8 (by decide) (by decide)) (OwnD.keep HR3.out hk8 (by decide) (by decide)))
      clear ho8 hb8 hk8 hp1 HP2 HP3 HB3 hs2 hpl
      go_wp2
      go_roundw
      case rel => exact ⟨i + 1, by omega, by go_num, HFO, HB8⟩
      case measure => simp [intOf]; omega

set_option maxRecDepth 100000 in
set_option maxHeartbeats 1000000 in
theorem cLitC (p fb : List Fp) (B : Nat) (bv : Value) (w : World) (hc : w.cell? ⟨B, 0, none⟩ = some bv) (hb : RdF w bv fb) (ob : CM.Ok fb) : Wants 42 (.pointer (some ⟨B, 0, none⟩)) p w (fun x => CM.cons x fb) := by
  intro u x wx hbx hu ox _
  show Calls _ _ _ _ (fun e w' => e = .returned (.bool (CM.cons x fb)) ∧ Below wx.heap.size wx w')
  have c0 := below_cell hbx hc
  have HK := Lib.hid (cContn u bv x fb wx hu (hb.below hbx) ox ob)
  generalize CM.cons x fb = R at *
  obtain ⟨xa, xc, rfl, _, _⟩ := hu.shape
  obtain ⟨ba, bc, rfl, _, _⟩ := hb.shape
  generalize x.length = xl at *
  generalize fb.length = bl at *
  clear hu hb ob ox hc hbx
  show Calls _ _ #[_, _] _ _
  go_enter Tryz.func42, Tryz.ntmps42
  go_wp2_with fail
  refine HK.out.mono ?_
  rintro e w1 ⟨rfl, hb⟩
  go_wp2
  go_ret
  exact ⟨rfl, hb⟩
set_option maxRecDepth 100000 in
set_option maxHeartbeats 1000000 in
theorem cLitP (p fb : List Fp) (B : Nat) (bv : Value) (w : World) (hc : w.cell? ⟨B, 0, none⟩ = some bv) (hb : RdF w bv fb) (ob : CM.Ok fb) : Wants 49 (.pointer (some ⟨B, 0, none⟩)) p w (fun x => CM.cons x fb || CM.cons fb x) := by
  intro u x wx hbx hu ox _
  show Calls _ _ _ _ (fun e w' => e = .returned (.bool (CM.cons x fb || CM.cons fb x)) ∧ Below wx.heap.size wx w')
  have HK := Lib.hid (cContn u bv x fb wx hu (hb.below hbx) ox ob)
  have HK2 := Lib.hid (fun w' (hq : Below wx.heap.size wx w') => cContn bv u fb x w' (hb.below (bnext hbx hq)) (hu.below hq) ob ox)
  have C0 := Lib.hid (fun w' (hq : Below wx.heap.size wx w') => below_cell (bnext hbx hq) hc)
  have c0 := below_cell hbx hc
  generalize CM.cons x fb = R at *
  generalize CM.cons fb x = R2 at *
  obtain ⟨xa, xc, rfl, _, _⟩ := hu.shape
  obtain ⟨ba, bc, rfl, _, _⟩ := hb.shape
  generalize x.length = xl at *
  generalize fb.length = bl at *
  clear hu hb ob ox hc hbx
  show Calls _ _ #[_, _] _ _
  go_enter Tryz.func49, Tryz.ntmps49
  cases R with
  | true =>
    clear HK2 C0
    go_wp2_with fail
    refine HK.out.mono ?_
    rintro e w1 ⟨rfl, hb⟩
    go_wp2
    go_ret
    exact ⟨rfl, hb⟩
  | false =>
    go_wp2_with fail
    refine HK.out.mono ?_
    rintro e w1 ⟨rfl, hb⟩
    have c1 := C0.out w1 hb
    have HK3 := Lib.hid (HK2.out w1 hb)
    have HB := Lib.hid hb
    clear c0 C0 HK HK2 hb
    go_wp2_with fail
    refine HK3.out.mono ?_
    rintro e w2 ⟨rfl, hb⟩
    go_wp2
    go_ret
    exact ⟨rfl, bnext HB.out hb⟩

theorem bld_ret {R : Ending → World → Prop} {a : Act} {w : World} {g : Nat} {x0 x1 : Value} (hp : a.tmps.getD 4 undef = .pointer (some ⟨g, 0, none⟩)) (hg : w.heap[g]? = some (.cells #[x0, x1] 31 (0, 0)))
    (hd : a.defers = []) (hR : R (.returned (.agg #[x0, x1])) w) : bodyPost Tryz.prog Tryz.f12 R .ret a w :=
  bodyPost_ret (results_cell_row (P := Tryz.prog) rfl a.tmps w g 31 _ _ _ hp hg Tryz.underlying31 rfl (by kernel_rfl)) hd hR
set_option maxRecDepth 100000 in
set_option maxHeartbeats 4000000 in
theorem pBuild (va vb : Value) (fa fb : List Fp) (w : World) (h1 : RdF w va fa) (h2 : RdF w vb fb) (o1 : CM.Ok fa) (o2 : CM.Ok fb) :
    Calls Tryz.prog 12 #[va, vb] w fun e w' => ∃ v, e = .returned v ∧ RdGr w' v (IM.all fa fb) ∧ Below w.heap.size w w' := by
  have gd : IM.Gd fb (IM.all fa fb) := IM.Gd.all o1 o2 (IM.cons_refl fb)
  have HAL := Lib.hid (fun wx (hb : Below w.heap.size w wx) => cAll va vb fa fb wx (h1.below hb) (h2.below hb) o1 o2)
  clear h1 h2 o1
  have hz := heap_alloc_new w (.cells #[.slice none 0 0, .slice none 0 0] 31)
  have hbz := below_fresh w (.cells #[.slice none 0 0, .slice none 0 0] 31)
  obtain ⟨w0, hw0⟩ : ∃ z, w.alloc (.cells #[.slice none 0 0, .slice none 0 0] 31) = z := ⟨_, rfl⟩
  rw [hw0] at hz hbz
  have HZ := Lib.hid hz
  have HB := Lib.hid hbz
  have HW := Lib.hid hw0
  clear hz hbz hw0
  go_enter Tryz.func12, Tryz.ntmps12
  go_wp2_with fail
  rw [HW.out]
  refine (HAL.out w0 HB.out).mono ?_
  rintro e w1 ⟨v1, rfl, hr, hq⟩
  have HR := Lib.hid hr
  have HED := Lib.hid (cConnect v1 _ w1 (hr.rd.imp (fun u x h => h.rd)) fb o2 gd)
  replace HZ := Lib.hid (below_block HZ.out hq)
  have HS := Lib.hid hq.size
  replace HB := Lib.hid (bnext HB.out hq)
  clear hr hq HAL HW
  go_wp2_with fail
  refine HED.out.mono ?_
  rintro e w2 ⟨v2, rfl, hr, hq⟩
  have hgr : OwnGr w0.heap.size w2 (.agg #[v1, v2]) (IM.all fa fb) := ⟨_, _, rfl, HR.out.below hq (fun u x h => h.below hq), hr.mono HS.out⟩
  replace HZ := Lib.hid (below_block HZ.out hq)
  replace HB := Lib.hid (bnext HB.out hq)
  obtain ⟨na, nl, nc, ea, el, ec, hv⟩ := hgr.shape
  cases hv
  have HGR := Lib.hid hgr
  clear hr hq HED HR hgr
  obtain ⟨⟨c0, c1⟩, f0, f1⟩ := row2F HZ.out
  go_wp2
  obtain ⟨p1, p2, p3⟩ := HGR.out.put HZ.out (B := w.heap.size) (Nat.le_refl _)
  exact bld_ret rfl p1 rfl ⟨_, rfl, p3.rd, HB.out.trans p2⟩

theorem ctr_ret {R : Ending → World → Prop} {a : Act} {w : World} {g : Nat} {x0 x1 : Value} (hp : a.tmps.getD 4 undef = .pointer (some ⟨g, 0, none⟩)) (hg : w.heap[g]? = some (.cells #[x0, x1] 31 (0, 0)))
    (hd : a.defers = []) (hR : R (.returned (.agg #[x0, x1])) w) : bodyPost Tryz.prog Tryz.f15 R .ret a w :=
  bodyPost_ret (results_cell_row (P := Tryz.prog) rfl a.tmps w g 31 _ _ _ hp hg Tryz.underlying31 rfl (by kernel_rfl)) hd hR
set_option maxRecDepth 100000 in
set_option maxHeartbeats 4000000 in
theorem pContract (p : List Fp) (gv bv : Value) (L : List (List Fp)) (fb : List Fp) (w : World) (op : CM.Ok p) (gd : IM.Gd p L) (h : RdGr w gv L) (hb : RdF w bv fb) (ob : CM.Ok fb) :
    Calls Tryz.prog 15 #[gv, bv] w fun e w' => ∃ v, e = .returned v ∧ RdGr w' v (L.filter fun x => CM.cons x fb) ∧ Below w.heap.size w w' := by
  obtain ⟨mv, ev, rfl, hm, he⟩ := h
  obtain ⟨ma, mc, rfl, _, _⟩ := hm.shape
  obtain ⟨ea, ec, rfl, _, _⟩ := he.shape
  obtain ⟨ba, bc, rfl, _, _⟩ := hb.shape
  have HR := Lib.hid (show RdGr w (.agg #[.slice ma L.length mc, .slice ea (IM.edgK L).length ec]) L from ⟨_, _, rfl, hm, he⟩)
  generalize (IM.edgK L).length = en at *
  generalize L.length = ln at *
  have HF := Lib.hid hb
  generalize fb.length = bl at *
  have hy := heap_alloc_new w (.cells #[.slice ma ln mc, .slice ea en ec] 31)
  have b1 := below_fresh w (.cells #[.slice ma ln mc, .slice ea en ec] 31)
  obtain ⟨w1, hw1⟩ : ∃ z, w.alloc (.cells #[.slice ma ln mc, .slice ea en ec] 31) = z := ⟨_, rfl⟩
  have hs1 : w1.heap.size = w.heap.size + 1 := by rw [← hw1]; simp
  rw [hw1] at hy b1
  have hx := heap_alloc_new w1 (.cells #[.slice ba bl bc] 24)
  have b2 := below_fresh w1 (.cells #[.slice ba bl bc] 24)
  obtain ⟨w2, hw2⟩ : ∃ z, w1.alloc (.cells #[.slice ba bl bc] 24) = z := ⟨_, rfl⟩
  have hs2 : w2.heap.size = w.heap.size + 2 := by rw [← hw2]; simp; omega
  rw [hw2, hs1] at hx
  rw [hw2] at b2
  have hz := heap_alloc_new w2 (.cells #[.slice none 0 0, .slice none 0 0] 31)
  have b3 := below_fresh w2 (.cells #[.slice none 0 0, .slice none 0 0] 31)
  obtain ⟨w3, hw3⟩ : ∃ z, w2.alloc (.cells #[.slice none 0 0, .slice none 0 0] 31) = z := ⟨_, rfl⟩
  rw [hw3, hs2] at hz
  rw [hw3] at b3
  have HY := Lib.hid (below_block (below_block hy b2) b3)
  have HX := Lib.hid (below_block hx b3)
  have HZ := Lib.hid hz
  have HB := Lib.hid (bnext (bnext b1 b2) b3)
  have HW := Lib.hid (show ((w.alloc (.cells #[.slice ma ln mc, .slice ea en ec] 31)).alloc (.cells #[.slice ba bl bc] 24)).alloc (.cells #[.slice none 0 0, .slice none 0 0] 31) = w3 by rw [hw1, hw2, hw3])
  clear hm he hb hy hx hz b1 b2 b3 hw1 hw2 hw3 hs1 hs2
  have HK := Lib.hid (cKeep 42 _ (enters_of Tryz.func42 (by kernel_rfl) rfl) p _ L w3 _ op gd (HR.out.below HB.out) (cLitC p fb (w.heap.size + 1) _ w3 (cell_of_one HX.out) (HF.out.below HB.out) ob))
  obtain ⟨⟨c0, c1⟩, _⟩ := row2F HY.out
  clear HX HY HF HR gd op ob
  have hmf : ∀ (fn : Fn) (first cap : Array Value) (w : World), (Instr.makeFunc fn first cap).run Tryz.prog w = .ok (.func fn first cap) w := fun _ _ _ _ => rfl
  go_enter Tryz.func15, Tryz.ntmps15
  go_upto_region 1 with fail
  rw [HW.out]
  go_wp2_with fail
  refine HK.out.mono ?_
  rintro e w4 ⟨v4, rfl, hr, hq⟩
  obtain ⟨na, nl, nc, ea, el, ec, rfl⟩ := hr.shape
  replace HZ := Lib.hid (below_block HZ.out hq)
  replace HB := Lib.hid (bnext HB.out hq)
  have HGR := Lib.hid hr
  clear hr hq HK c0 c1
  obtain ⟨⟨c0, c1⟩, f0, f1⟩ := row2F HZ.out
  go_wp2
  obtain ⟨p1, p2, p3⟩ := HGR.out.put HZ.out (B := w.heap.size) (by omega)
  exact ctr_ret rfl p1 rfl ⟨_, rfl, p3.rd, HB.out.trans p2⟩

theorem prn_ret {R : Ending → World → Prop} {a : Act} {w : World} {g : Nat} {x0 x1 : Value} (hp : a.tmps.getD 4 undef = .pointer (some ⟨g, 0, none⟩)) (hg : w.heap[g]? = some (.cells #[x0, x1] 31 (0, 0)))
    (hd : a.defers = []) (hR : R (.returned (.agg #[x0, x1])) w) : bodyPost Tryz.prog Tryz.f20 R .ret a w :=
  bodyPost_ret (results_cell_row (P := Tryz.prog) rfl a.tmps w g 31 _ _ _ hp hg Tryz.underlying31 rfl (by kernel_rfl)) hd hR
set_option maxRecDepth 100000 in
set_option maxHeartbeats 4000000 in
theorem pPrune (p : List Fp) (gv bv : Value) (L : List (List Fp)) (fb : List Fp) (w : World) (op : CM.Ok p) (gd : IM.Gd p L) (h : RdGr w gv L) (hb : RdF w bv fb) (ob : CM.Ok fb) :
    Calls Tryz.prog 20 #[gv, bv] w fun e w' => ∃ v, e = .returned v ∧ RdGr w' v (L.filter fun x => CM.cons x fb || CM.cons fb x) ∧ Below w.heap.size w w' := by
  obtain ⟨mv, ev, rfl, hm, he⟩ := h
  obtain ⟨ma, mc, rfl, _, _⟩ := hm.shape
  obtain ⟨ea, ec, rfl, _, _⟩ := he.shape
  obtain ⟨ba, bc, rfl, _, _⟩ := hb.shape
  have HR := Lib.hid (show RdGr w (.agg #[.slice ma L.length mc, .slice ea (IM.edgK L).length ec]) L from ⟨_, _, rfl, hm, he⟩)
  generalize (IM.edgK L).length = en at *
  generalize L.length = ln at *
  have HF := Lib.hid hb
  generalize fb.length = bl at *
  have hy := heap_alloc_new w (.cells #[.slice ma ln mc, .slice ea en ec] 31)
  have b1 := below_fresh w (.cells #[.slice ma ln mc, .slice ea en ec] 31)
  obtain ⟨w1, hw1⟩ : ∃ z, w.alloc (.cells #[.slice ma ln mc, .slice ea en ec] 31) = z := ⟨_, rfl⟩
  have hs1 : w1.heap.size = w.heap.size + 1 := by rw [← hw1]; simp
  rw [hw1] at hy b1
  have hx := heap_alloc_new w1 (.cells #[.slice ba bl bc] 24)
  have b2 := below_fresh w1 (.cells #[.slice ba bl bc] 24)
  obtain ⟨w2, hw2⟩ : ∃ z, w1.alloc (.cells #[.slice ba bl bc] 24) = z := ⟨_, rfl⟩
  have hs2 : w2.heap.size = w.heap.size + 2 := by rw [← hw2]; simp; omega
  rw [hw2, hs1] at hx
  rw [hw2] at b2
  have hz := heap_alloc_new w2 (.cells #[.slice none 0 0, .slice none 0 0] 31)
  have b3 := below_fresh w2 (.cells #[.slice none 0 0, .slice none 0 0] 31)
  obtain ⟨w3, hw3⟩ : ∃ z, w2.alloc (.cells #[.slice none 0 0, .slice none 0 0] 31) = z := ⟨_, rfl⟩
  rw [hw3, hs2] at hz
  rw [hw3] at b3
  have HY := Lib.hid (below_block (below_block hy b2) b3)
  have HX := Lib.hid (below_block hx b3)
  have HZ := Lib.hid hz
  have HB := Lib.hid (bnext (bnext b1 b2) b3)
  have HW := Lib.hid (show ((w.alloc (.cells #[.slice ma ln mc, .slice ea en ec] 31)).alloc (.cells #[.slice ba bl bc] 24)).alloc (.cells #[.slice none 0 0, .slice none 0 0] 31) = w3 by rw [hw1, hw2, hw3])
  clear hm he hb hy hx hz b1 b2 b3 hw1 hw2 hw3 hs1 hs2
  have HK := Lib.hid (cKeep 49 _ (enters_of Tryz.func49 (by kernel_rfl) rfl) p _ L w3 _ op gd (HR.out.below HB.out) (cLitP p fb (w.heap.size + 1) _ w3 (cell_of_one HX.out) (HF.out.below HB.out) ob))
  obtain ⟨⟨c0, c1⟩, _⟩ := row2F HY.out
  clear HX HY HF HR gd op ob
  have hmf : ∀ (fn : Fn) (first cap : Array Value) (w : World), (Instr.makeFunc fn first cap).run Tryz.prog w = .ok (.func fn first cap) w := fun _ _ _ _ => rfl
  go_enter Tryz.func20, Tryz.ntmps20
  go_upto_region 1 with fail
  rw [HW.out]
  go_wp2_with fail
  refine HK.out.mono ?_
  rintro e w4 ⟨v4, rfl, hr, hq⟩
  obtain ⟨na, nl, nc, ea, el, ec, rfl⟩ := hr.shape
  replace HZ := Lib.hid (below_block HZ.out hq)
  replace HB := Lib.hid (bnext HB.out hq)
  have HGR := Lib.hid hr
  clear hr hq HK c0 c1
  obtain ⟨⟨c0, c1⟩, f0, f1⟩ := row2F HZ.out
  go_wp2
  obtain ⟨p1, p2, p3⟩ := HGR.out.put HZ.out (B := w.heap.size) (by omega)
  exact prn_ret rfl p1 rfl ⟨_, rfl, p3.rd, HB.out.trans p2⟩

end Go.Proofs.YtkgkhofkhjgnbaaGreat
