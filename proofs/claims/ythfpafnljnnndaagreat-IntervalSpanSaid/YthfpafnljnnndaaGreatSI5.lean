/-
  The calls of the reference's ViewOf and Span; that the two spans are one. Conditions: the genesis and the configurations are valid.
  The calls of the reference's ViewOf and Span. Conditions: the genesis and the configurations are valid.
-/
import Derived.Test.YthfpafnljnnndaaGreatSI2
import Derived.Test.YthfpafnljnnndaaGreatSI3
import Derived.Test.YthfpafnljnnndaaGreatSI4
import Derived.Test.YthfpafnljnnndaaGreatSR
namespace Go.Proofs.YthfpafnljnnndaaGreat
open Go.RowKit Go.Joins Go.Shelf
open JM (Chg)
open CM (Fp)
open MM (Mem Ent Sm Tri)

theorem rvo_ret {R : Ending → World → Prop} {a : Act} {w : World} {g : Nat} {s : Value} {k c f : Int} (hp : a.tmps.getD 4 undef = .pointer (some ⟨g, 0, none⟩)) (hg : w.heap[g]? = some (.cells (v4 s k c f) 41 (0, 0)))
    (hd : a.defers = []) (hR : R (.returned (vw s k c f)) w) : bodyPost Tryz.prog Tryz.f20 R .ret a w :=
  bodyPost_ret (results_cell_row (P := Tryz.prog) rfl a.tmps w g 41 _ _ _ hp hg Tryz.underlying41 rfl (by kernel_rfl)) hd hR

end Go.Proofs.YthfpafnljnnndaaGreat

namespace Go.Proofs.YthfpafnljnnndaaGreat
open Go.RowKit Go.Joins Go.Shelf
open JM (Chg)
open CM (Fp)
open MM (Mem Ent Sm Tri)

set_option maxRecDepth 100000 in
set_option maxHeartbeats 4000000 in
theorem rViewOf (u v : Value) (k c f : Int) (ms : List Mem) (fs : List Fp) (w : World) (hu : RdM w u ms) (h : RdF w v fs) (hg : MM.errG k c f ms = 0) (hml : ms.length ≤ 12) (ho : CM.Ok fs) :
    Calls Tryz.prog 20 #[vw u k c f, v] w fun e w' => ∃ sl, e = .returned (vw sl (IM.vwOf ms k c f fs).2.1 (IM.vwOf ms k c f fs).2.2.1 (IM.vwOf ms k c f fs).2.2.2) ∧ OwnM w.heap.size w' sl (IM.vwOf ms k c f fs).1 ∧ Below w.heap.size w w' := by
  obtain ⟨g1, g2, _⟩ := MM.errG_zero hg
  have hse : MM.summ ms k c f fs = MM.summR ms k c f fs := MM.summ_eq g1 g2 ho.all fun x hx y hy e1 e2 => ho.srt.key hx hy ⟨e1, e2⟩
  obtain ⟨w2, hw2, hB2, hsz2, hG2, hZ2⟩ : ∃ w2, (w.alloc (.cells #[u, .int .i64 k, .int .i64 c, .int .i64 f] 35)).alloc (.cells (v4 (.slice none 0 0) 0 0 0) 41) = w2 ∧ Below w.heap.size w w2 ∧ w2.heap.size = w.heap.size + 2 ∧
      w2.heap[w.heap.size]? = some (.cells #[u, .int .i64 k, .int .i64 c, .int .i64 f] 35 (0, 0)) ∧ w2.heap[w.heap.size + 1]? = some (.cells (v4 (.slice none 0 0) 0 0 0) 41 (0, 0)) :=
    ⟨_, rfl, bnext (below_fresh _ _) (below_fresh _ _), by simp, below_block (heap_alloc_new w _) (below_fresh _ _), by rw [← World.size_alloc w (.cells #[u, .int .i64 k, .int .i64 c, .int .i64 f] 35)]; exact heap_alloc_new _ _⟩
  have HS := Lib.hid (rSummarize u v k c f ms fs w2 (hu.below hB2) (h.below hB2) hg (by omega) ho.all (by have := ho.nine; omega))
  have hok : MM.OkS (MM.summ ms k c f fs) := (MM.sp_summ g1 g2 ho.all).ok
  have HV := Lib.hid (fun s w' (hr : RdS w' s (MM.summ ms k c f fs)) => rViewO s _ w' hr (okS_len hok))
  rw [← hse] at HS
  have hX : IM.vwOf ms k c f fs = (MM.mems (MM.summ ms k c f fs), MM.vk (MM.summ ms k c f fs), (MM.summ ms k c f fs).c, (MM.summ ms k c f fs).f) := rfl
  rw [hX]
  obtain ⟨ua, uc, rfl, _, _⟩ := hu.shape
  obtain ⟨va, vc, rfl, _, _⟩ := h.shape
  generalize MM.summ ms k c f fs = S at *
  obtain ⟨⟨q0, q1, q2, q3⟩, _⟩ := row4_at hG2
  have HW2 := Lib.hid hw2
  have HB2 := Lib.hid hB2
  have HZ2 := Lib.hid hZ2
  have HSZ := Lib.hid hsz2
  clear hu h hg hml ho g1 g2 hse hw2 hB2 hZ2 hG2 hok hX hsz2
  go_enter Tryz.func20, Tryz.ntmps20
  go_upto_region 1 with fail
  rw [HW2.out]
  go_wp2_with fail
  refine HS.out.mono ?_
  rintro e w3 ⟨s, rfl, hr3, hb3⟩
  have HZ3 := Lib.hid (below_block HZ2.out hb3)
  have HB3 := Lib.hid (bnext HB2.out hb3)
  have HSZ3 := Lib.hid (show w.heap.size + 2 ≤ w3.heap.size by have := hb3.size; have := HSZ.out; omega)
  have HVS := Lib.hid (HV.out s w3 hr3)
  obtain ⟨ax, lx, cx, ay, ly, cy, az, lz, cz, hs⟩ := hr3.shape
  subst hs
  clear hr3 hb3 HS HV HZ2 HB2 HSZ q0 q1 q2 q3 HW2
  go_wp2_with fail
  refine HVS.out.mono ?_
  rintro e w4 ⟨sl, rfl, hm4, hb4⟩
  have hz4 := below_block HZ3.out hb4
  have HB4 := Lib.hid (bnext HB3.out hb4)
  obtain ⟨ma, mc, rfl, _, _⟩ := hm4.rd.shape
  obtain ⟨mn, hmn⟩ : ∃ mn, mn = (MM.mems S).length := ⟨_, rfl⟩
  rw [← hmn] at hm4 ⊢
  have HM4 := Lib.hid (hm4.mono (show w.heap.size + 2 ≤ w3.heap.size from HSZ3.out))
  have hput := row4_put hz4 (.slice ma mn mc) (.int .i64 (MM.vk S)) (.int .i64 S.c) (.int .i64 S.f) w.heap.size (by omega)
  have hon : Only (w.heap.size + 1) w4 ((((w4.setCell ⟨w.heap.size + 1, 0, none⟩ (.slice ma mn mc)).setCell ⟨w.heap.size + 1, 1, none⟩ (.int .i64 (MM.vk S))).setCell ⟨w.heap.size + 1, 2, none⟩ (.int .i64 S.c)).setCell ⟨w.heap.size + 1, 3, none⟩ (.int .i64 S.f)) := (((Only.set 0 _).trans (Only.set 1 _)).trans (Only.set 2 _)).trans (Only.set 3 _)
  have HFM := Lib.hid (HM4.out.fr (Fr.only (B := w.heap.size + 2) hon (by omega)))
  have HPUT := Lib.hid hput.1
  have HEND := Lib.hid (HB4.out.trans hput.2)
  obtain ⟨⟨z0, z1, z2, z3⟩, f0, f1, f2, f3⟩ := row4_at hz4
  clear hm4 hb4 hz4 hput hon HVS HZ3 HM4 HB4 hmn
  go_wp2
  exact rvo_ret rfl HPUT.out rfl ⟨.slice ma mn mc, rfl, HFM.out.mono (by omega), HEND.out⟩

set_option maxRecDepth 100000 in
set_option maxHeartbeats 8000000 in
theorem rSpanI (u va vb : Value) (k c f : Int) (ms : List Mem) (fa fb : List Fp) (w : World) (hu : RdM w u ms) (h1 : RdF w va fa) (h2 : RdF w vb fb) (o1 : CM.Ok fa) (o2 : CM.Ok fb) (hag : CM.Agr fb fa) (hg : MM.errG k c f ms = 0) (hml : ms.length ≤ 12) :
    Calls Tryz.prog 23 #[vw u k c f, va, vb] w fun e w' => ∃ v, e = .returned v ∧ RdI w' v (IM.span ms k c f fa fb) ∧ Below w.heap.size w w' := by
  have HA := Lib.hid (fun w' (hb : Below w.heap.size w w') => rAll va vb fa fb w' (h1.below hb) (h2.below hb) o1 o2 hag)
  have HOK := Lib.hid (show ∀ x ∈ IM.all fa fb, CM.Ok x from fun x hx => by obtain ⟨v, _, rfl⟩ := List.mem_map.1 hx; exact o2.rs _)
  have HVO := Lib.hid (fun x fs w' (hb : Below w.heap.size w w') (hx : RdF w' x fs) (ho : CM.Ok fs) => rViewOf u x k c f ms fs w' (hu.below hb) hx hg hml ho)
  obtain ⟨hl1, hl2⟩ := IM.views_len (fa := fa) (fb := fb) hg o1 o2
  have hsp : IM.span ms k c f fa fb = IM.sp (IM.servers ((IM.all fa fb).map (IM.vwOf ms k c f))) := (IM.sp_eq _).symm
  rw [hsp]
  have hvl : IM.views ms k c f fa fb = (IM.all fa fb).map (IM.vwOf ms k c f) := rfl
  rw [hvl] at hl1 hl2
  rw [List.length_map] at hl1
  obtain ⟨a, ca, rfl, _, _⟩ := h1.shape
  obtain ⟨b, cb, rfl, _, _⟩ := h2.shape
  obtain ⟨ua, uc, rfl, _, _⟩ := hu.shape
  generalize IM.all fa fb = L at *
  generalize IM.vwOf ms k c f = FF at *
  generalize ms.length = ml at *
  obtain ⟨w1, hw1, hB1, hG1⟩ : ∃ w1, w.alloc (.cells #[.slice ua ml uc, .int .i64 k, .int .i64 c, .int .i64 f] 35) = w1 ∧ Below w.heap.size w w1 ∧ w1.heap[w.heap.size]? = some (.cells #[.slice ua ml uc, .int .i64 k, .int .i64 c, .int .i64 f] 35 (0, 0)) :=
    ⟨_, rfl, below_fresh _ _, heap_alloc_new _ _⟩
  have HL2 := Lib.hid hl2
  have HW1 := Lib.hid hw1
  have HB1 := Lib.hid hB1
  have HG1 := Lib.hid hG1
  clear hu h1 h2 o1 o2 hg hml hw1 hB1 hG1 hl2 hsp hvl hag
  go_enter Tryz.func23, Tryz.ntmps23
  go_upto_region 1 with fail
  rw [HW1.out]
  go_wp2_with fail
  refine (HA.out w1 HB1.out).mono ?_
  rintro e w2 ⟨v2, rfl, hr2, hb2⟩
  have hr2 := hr2.rd.imp (fun u x h => h.rd hb2)
  obtain ⟨c2, cc2, rfl, _, _⟩ := hr2.shape
  have HB2 := Lib.hid (bnext HB1.out hb2)
  have HG2 := Lib.hid (below_block HG1.out hb2)
  have HR2 := Lib.hid hr2
  clear hr2 hb2 HA HW1 HG1 HB1
  go_wp2
  go_loopw [7, 9] (fun v ix wr => ∃ i : Nat, i ≤ L.length ∧ ix = .int .i64 i ∧ Hid (RdI wr v (IM.sp (IM.servers ((L.map FF).take i)))) ∧ Hid (Below w2.heap.size w2 wr)) (fun _ ix _ => L.length - (intOf ix).toNat)
  case atStart => exact ⟨0, Nat.zero_le _, rfl, Lib.hid (by rw [List.take_zero]; exact RdG.nil hlI _), Lib.hid (Below.refl _ _)⟩
  case round =>
    obtain ⟨i, hii, rfl, hoe, hbw⟩ := hrel
    obtain ⟨ea, ec, hev, _, _⟩ := hoe.out.shape
    obtain ⟨en, hen⟩ : ∃ n, n = (IM.sp (IM.servers ((L.map FF).take i))).length := ⟨_, rfl⟩
    rw [← hen] at hev
    have Hen := Lib.hid hen
    clear hen
    subst hev
    by_cases hlt : i < L.length
    case neg =>
      have hq2 : ¬ ((i : Int) < (L.length : Int)) := by omega
      have hfo := hoe.out
      rw [List.take_of_length_le (by rw [List.length_map]; omega)] at hfo
      have HFO := Lib.hid hfo
      have HFB := Lib.hid (bnext HB2.out hbw.out)
      clear hoe hbw hfo HL2
      go_wp2
      go_ret
      exact ⟨_, rfl, HFO.out, HFB.out⟩
    have hq2 : (i : Int) < (L.length : Int) := by omega
    have hat := List.getElem?_eq_getElem hlt
    generalize L[i] = x at hat
    have hat2 : (L.map FF)[i]? = some (FF x) := by rw [List.getElem?_map, hat]; rfl
    have htk := IM.servers_take hat2
    have hxl := HL2.out _ (List.mem_of_getElem? hat2)
    obtain ⟨xb, xo, xad, xl, xcp, hix, hxb, hxc, hxo⟩ := HR2.out.at_ cfgE i x hat
    have HXC := Lib.hid (below_cell hbw.out hxc)
    have HGr := Lib.hid (below_block HG2.out hbw.out)
    have HVX := Lib.hid (fun w' (hb : Below wr.heap.size wr w') => HVO.out _ x w' (bnext HB2.out (bnext hbw.out hb)) (hxo.below (bnext hbw.out hb)) (HOK.out x (List.mem_of_getElem? hat)))
    generalize FF x = X at hat2 htk hxl HVX
    obtain ⟨xm, x1, x2, x3⟩ := X
    have HTK := Lib.hid (show IM.servers ((L.map FF).take (i + 1)) = IM.servers ((L.map FF).take i) ++ xm.map (·.1) from htk)
    have hxl : xm.length ≤ 12 := hxl
    have hsl : (IM.servers ((L.map FF).take i)).length ≤ 12000 := by
      have := IM.servers_len (L := (L.map FF).take i) (fun v hv => HL2.out v (List.mem_of_mem_take hv))
      rw [List.length_take] at this
      omega
    have HOE := Lib.hid hoe.out
    have HBW := Lib.hid hbw.out
    have HIX := Lib.hid hix
    clear hat hat2 htk hxo hoe hbw hxc hxb hix
    go_wp2
    refine wp_region_held_drew (S := fun w' => Below wr.heap.size wr w') (by kernel_rfl) ((Below.refl _ _).drew) (fun ha => ?_)
    replace ha : Below wr.heap.size wr wr.drew := (Below.refl _ _).drew
    generalize wr.drew = wa at ha ⊢
    refine takeH (i := 0) (v := ?_) rfl (by kernel_rfl) (by kernel_rfl) (by kernel_rfl) (fun _ _ _ h => h) (Or.inl ⟨by rfl, ?_⟩) (by assumption) ?_
    rotate_left
    · (intro w hSw; (try dsimp only at hSw); obtain ⟨⟨q0, q1, q2, q3⟩, _⟩ := row4_at (below_block HGr.out hSw); go_simp; first | done | with_reducible rfl)
    (try simp only [Act.put, List.setIfInBounds_toArray, List.set_cons_zero, List.set_cons_succ])
    refine takeH (i := 1) (v := ?_) rfl (by kernel_rfl) (by kernel_rfl) (by kernel_rfl) (fun _ _ _ h => h) (Or.inl ⟨by rfl, ?_⟩) (by assumption) ?_
    rotate_left
    · (intro w hSw; (try dsimp only at hSw); go_simp; first | done | with_reducible rfl)
    (try simp only [Act.put, List.setIfInBounds_toArray, List.set_cons_zero, List.set_cons_succ])
    refine takeH (i := 2) (v := ?_) rfl (by kernel_rfl) (by kernel_rfl) (by kernel_rfl) (fun _ _ _ h => h) (Or.inl ⟨by rfl, ?_⟩) (by assumption) ?_
    rotate_left
    · (intro w hSw; (try dsimp only at hSw); go_simp; first | done | with_reducible rfl)
    (try simp only [Act.put, List.setIfInBounds_toArray, List.set_cons_zero, List.set_cons_succ])
    refine takeH (i := 3) (v := ?_) rfl (by kernel_rfl) (by kernel_rfl) (by kernel_rfl) (fun _ _ _ h => h) (Or.inl ⟨by rfl, ?_⟩) (by assumption) ?_
    rotate_left
    · (intro w hSw; (try dsimp only at hSw); have hix := HIX.out; go_simp; first | done | with_reducible rfl)
    (try simp only [Act.put, List.setIfInBounds_toArray, List.set_cons_zero, List.set_cons_succ])
    refine takeH (i := 4) (v := ?_) rfl (by kernel_rfl) (by kernel_rfl) (by kernel_rfl) (fun _ _ _ h => h) (Or.inl ⟨by rfl, ?_⟩) (by assumption) ?_
    rotate_left
    · (intro w hSw; (try dsimp only at hSw); have hxc := below_cell hSw HXC.out; go_simp; first | done | with_reducible rfl)
    (try simp only [Act.put, List.setIfInBounds_toArray, List.set_cons_zero, List.set_cons_succ])
    refine wpAnyH_ready (rs := [5, 6]) (by kernel_rfl) (by simp) ?_
    refine stepH rfl (fun K hK => ?_) (stepH rfl (fun K hK => ?_) AllReadyH.nil)
    focus
      go_simp
      refine (HVX.out wa ha).mono ?_
      rintro e wb ⟨sl, rfl, hm, hq⟩
      obtain ⟨sa, sc, rfl, _, _⟩ := hm.rd.shape
      have hb := bnext ha hq
      go_wp2_with fail
      refine hK.out _ _ (hb) (fun _ => ?_)
      clear hK K
      (try simp only [Act.put, List.setIfInBounds_toArray, List.set_cons_zero, List.set_cons_succ])
      refine wpAnyH_ready (rs := [6]) (by kernel_rfl) (by simp) ?_
      refine stepH rfl (fun K hK => ?_) AllReadyH.nil
      go_simp
      have hc := bnext hb (below_fresh _ (.cells #[.slice none 0 0, .int .i64 0, .int .i64 0, .int .i64 0] 41))
      have hz := heap_alloc_new wb (.cells #[.slice none 0 0, .int .i64 0, .int .i64 0, .int .i64 0] 41)
      have hmc := hm.below (below_fresh wb (.cells #[.slice none 0 0, .int .i64 0, .int .i64 0, .int .i64 0] 41))
      refine hK.out _ _ (hc) (fun _ => ?_)
      clear hK K
      (try simp only [Act.put, List.setIfInBounds_toArray, List.set_cons_zero, List.set_cons_succ])
      obtain ⟨wc , hwc ⟩ : ∃ wc , (wb).alloc (.cells #[.slice none 0 0, .int .i64 0, .int .i64 0, .int .i64 0] 41) = wc  := ⟨_, rfl⟩
      rw [hwc ] at hc hz hmc ⊢
      clear hwc 
      have hgl := hb.size
      have HRD := Lib.hid (fun (w' : World) (ho : Only wb.heap.size wc w') => (ownG_only hmc hz (by decide) ho).rd)
      generalize wb.heap.size = g at hz hgl HRD ⊢
      clear hq hb hm hmc
    rotate_left
    focus
      go_simp
      have hb := bnext ha (below_fresh _ (.cells #[.slice none 0 0, .int .i64 0, .int .i64 0, .int .i64 0] 41))
      have hz := heap_alloc_new wa (.cells #[.slice none 0 0, .int .i64 0, .int .i64 0, .int .i64 0] 41)
      refine hK.out _ _ (hb) (fun _ => ?_)
      clear hK K
      (try simp only [Act.put, List.setIfInBounds_toArray, List.set_cons_zero, List.set_cons_succ])
      obtain ⟨wb , hwb ⟩ : ∃ wb , (wa).alloc (.cells #[.slice none 0 0, .int .i64 0, .int .i64 0, .int .i64 0] 41) = wb  := ⟨_, rfl⟩
      rw [hwb ] at hb hz ⊢
      clear hwb 
      refine wpAnyH_ready (rs := [5]) (by kernel_rfl) (by simp) ?_
      refine stepH rfl (fun K hK => ?_) AllReadyH.nil
      go_simp
      refine (HVX.out wb hb).mono ?_
      rintro e wc ⟨sl, rfl, hm, hq⟩
      obtain ⟨sa, sc, rfl, _, _⟩ := hm.rd.shape
      have hc := bnext hb hq
      go_wp2_with fail
      refine hK.out _ _ (hc) (fun _ => ?_)
      clear hK K
      (try simp only [Act.put, List.setIfInBounds_toArray, List.set_cons_zero, List.set_cons_succ])
      replace hz := below_block hz hq
      have hgl := ha.size
      have HRD := Lib.hid (fun (w' : World) (ho : Only wa.heap.size wc w') => (ownG_only hm hz (by decide) ho).rd)
      generalize wa.heap.size = g at hz hgl HRD ⊢
      clear hq hb hm
    all_goals
      obtain ⟨⟨z0, z1, z2, z3⟩, f0, f1, f2, f3⟩ := row4_at hz
      have hput := row4_put hz (.slice sa xm.length sc) (.int .i64 x1) (.int .i64 x2) (.int .i64 x3) wr.heap.size hgl
      have hon : Only g wc ((((wc.setCell ⟨g, 0, none⟩ (.slice sa xm.length sc)).setCell ⟨g, 1, none⟩ (.int .i64 x1)).setCell ⟨g, 2, none⟩ (.int .i64 x2)).setCell ⟨g, 3, none⟩ (.int .i64 x3)) := (((Only.set 0 _).trans (Only.set 1 _)).trans (Only.set 2 _)).trans (Only.set 3 _)
      have hd := hc.trans hput.2
      have hrd := HRD.out _ hon
      refine wpAnyH_ready (rs := [7]) (by kernel_rfl) (by simp) ?_
      refine stepH rfl (fun K hK => ?_) AllReadyH.nil
      go_simp
      skip
      refine hK.out _ _ (hd) (fun _ => ?_)
      clear hK K
      (try simp only [Act.put, List.setIfInBounds_toArray, List.set_cons_zero, List.set_cons_succ])
      generalize ((((wc.setCell ⟨g, 0, none⟩ (.slice sa xm.length sc)).setCell ⟨g, 1, none⟩ (.int .i64 x1)).setCell ⟨g, 2, none⟩ (.int .i64 x2)).setCell ⟨g, 3, none⟩ (.int .i64 x3)) = wd at hd hput hrd ⊢
      clear z0 z1 z2 z3 f0 f1 f2 f3 hz hon
      refine wpAnyH_done (by kernel_rfl) ?_ _
      have HP := Lib.hid hput.1
      have HD := Lib.hid (bnext HBW.out hd)
      have HRX := Lib.hid hrd
      have HO3 := Lib.hid (show RdI wd (.slice ea en ec) (IM.sp (IM.servers ((L.map FF).take i) ++ (xm.take 0).map (·.1))) by rw [List.take_zero, List.map_nil, List.append_nil]; exact HOE.out.below hd)
      clear hput hd hrd hc HRD HGr HXC HVX HIX hgl
      go_wp2
      go_loopw [7, 11] (fun v jx wr => ∃ j : Nat, j ≤ xm.length ∧ jx = .int .i64 j ∧ Hid (RdI wr v (IM.sp (IM.servers ((L.map FF).take i) ++ (xm.take j).map (·.1)))) ∧ Hid (Below wd.heap.size wd wr)) (fun _ jx _ => xm.length - (intOf jx).toNat)
      case atStart => exact ⟨0, Nat.zero_le _, rfl, HO3, Lib.hid (Below.refl _ _)⟩
      case round =>
        obtain ⟨j, hjj, rfl, hoe, hbw⟩ := hrel
        clear HO3
        obtain ⟨ga, gc, hgv, _, _⟩ := hoe.out.shape
        obtain ⟨gn, hgn⟩ : ∃ n, n = (IM.sp (IM.servers ((L.map FF).take i) ++ (xm.take j).map (·.1))).length := ⟨_, rfl⟩
        rw [← hgn] at hgv
        have Hgn := Lib.hid hgn
        clear hgn
        subst hgv
        obtain ⟨⟨z0, z1, z2, z3⟩, _⟩ := row4_at (below_block HP.out hbw.out)
        by_cases hlj : j < xm.length
        case neg =>
          have hq3 : ¬ ((j : Int) < (xm.length : Int)) := by omega
          have hfo := hoe.out
          rw [List.take_of_length_le (l := xm) (i := j) (by omega), ← HTK.out] at hfo
          have HFO := Lib.hid hfo
          have HFB := Lib.hid (bnext HD.out hbw.out)
          clear hoe hbw hfo
          go_wp2
          go_roundw
          case rel => exact ⟨i + 1, by omega, by go_num, HFO, HFB⟩
          case measure => simp [intOf]; omega
        have hq3 : (j : Int) < (xm.length : Int) := by omega
        have hat := List.getElem?_eq_getElem hlj
        have htk := IM.map_take hat
        generalize xm[j] = m at hat htk
        obtain ⟨b3, o3, hi3, hb3, d0, d1⟩ := atM (HRX.out.below hbw.out) j m hat
        obtain ⟨m1, m2⟩ := m
        have hnx : IM.sp (IM.servers ((L.map FF).take i) ++ (xm.take (j + 1)).map (·.1)) = MM.insI m1 (IM.sp (IM.servers ((L.map FF).take i) ++ (xm.take j).map (·.1))) := by rw [htk, ← List.append_assoc, IM.sp_snoc]
        have HNX := Lib.hid hnx
        have HIN := Lib.hid (oInsert _ _ m1 wr hoe.out (IM.sp_srt _) (IM.sp_len _ (by rw [List.length_append, List.length_map, List.length_take]; omega)))
        have HBW2 := Lib.hid hbw.out
        clear hat htk hoe hbw hnx
        go_wp2_with fail
        refine HIN.out.mono ?_
        rintro e w8 ⟨v8, rfl, hf8, hb8⟩
        obtain ⟨a8, l8, c8, hv8⟩ := hf8.shape
        subst hv8
        have HO8 := Lib.hid (show RdI w8 (.slice a8 l8 c8) (IM.sp (IM.servers ((L.map FF).take i) ++ (xm.take (j + 1)).map (·.1))) by rw [HNX.out]; exact hf8.rd)
        have HB8 := Lib.hid (bnext HBW2.out hb8)
        clear hf8 hb8 HIN d0 d1 hi3 hb3 z0 z1 z2 z3
        go_wp2
        go_roundw
        case rel => exact ⟨j + 1, by omega, by go_num, HO8, HB8⟩
        case measure => simp [intOf]; omega

end Go.Proofs.YthfpafnljnnndaaGreat
