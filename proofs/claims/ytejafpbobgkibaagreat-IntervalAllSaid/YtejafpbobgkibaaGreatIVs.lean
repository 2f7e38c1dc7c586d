/-
  The calls of interval.Views and interval.Span at a valid genesis and valid configurations.
-/
import Derived.Test.YtejafpbobgkibaaGreatIVws
namespace Go.Proofs.YtejafpbobgkibaaGreat
open Go.RowKit Go.Joins Go.Shelf
open JM (Chg)
open CM (Fp)
open MM (Mem Ent Sm Tri)

set_option maxRecDepth 100000 in
set_option maxHeartbeats 2000000 in
theorem cViews (u va vb : Value) (k c f : Int) (ms : List Mem) (fa fb : List Fp) (w : World) (hu : RdM w u ms) (h1 : RdF w va fa) (h2 : RdF w vb fb) (o1 : CM.Ok fa) (o2 : CM.Ok fb) (hg : MM.errG k c f ms = 0) (hml : ms.length ≤ 12) :
    Calls Tryz.prog 18 #[vw u k c f, va, vb] w fun e w' => ∃ v, e = .returned v ∧ OwnVs w.heap.size w.heap.size w' v (IM.views ms k c f fa fb) ∧ Below w.heap.size w w' := by
  have HA := Lib.hid (fun w' (hb : Below w.heap.size w w') => cAll va vb fa fb w' (h1.below hb) (h2.below hb) o1 o2)
  have HV := Lib.hid (fun x fs w' (hb : Below w.heap.size w w') (hx : RdF w' x fs) (ho : CM.Ok fs) => cViewOf u x k c f ms fs w' (hu.below hb) hx hg (by omega) ho)
  have HOK := Lib.hid (show ∀ x ∈ IM.all fa fb, CM.Ok x from fun x hx => by obtain ⟨v, _, rfl⟩ := List.mem_map.1 hx; exact o2.rs _)
  have hle : (IM.all fa fb).length ≤ 1000 := by unfold IM.all; rw [List.length_map]; exact (IM.iv_ok o1 o2).2
  have hvd : IM.views ms k c f fa fb = (IM.all fa fb).map (IM.vwOf ms k c f) := rfl
  rw [hvd]
  clear hvd
  obtain ⟨a, ca, rfl, _, _⟩ := h1.shape
  obtain ⟨b, cb, rfl, _, _⟩ := h2.shape
  obtain ⟨ua, uc, rfl, _, _⟩ := hu.shape
  generalize IM.all fa fb = L at *
  generalize ms.length = ml at *
  obtain ⟨w1, hw1, hB1, hG1, hsz1⟩ : ∃ w1, w.alloc (.cells #[.slice ua ml uc, .int .i64 k, .int .i64 c, .int .i64 f] 35) = w1 ∧ Below w.heap.size w w1 ∧ w1.heap[w.heap.size]? = some (.cells #[.slice ua ml uc, .int .i64 k, .int .i64 c, .int .i64 f] 35 (0, 0)) ∧ w1.heap.size = w.heap.size + 1 :=
    ⟨_, rfl, below_fresh _ _, heap_alloc_new _ _, by simp⟩
  have hq12 : ¬ ((12 : Int) < (ml : Int)) := by omega
  obtain ⟨⟨q0, q1, q2, q3⟩, _⟩ := row4_at hG1
  have HW1 := Lib.hid hw1
  have HG1 := Lib.hid hG1
  have HB1 := Lib.hid hB1
  have HSZ1 := Lib.hid hsz1
  clear hu h1 h2 o1 o2 hg hml hw1 hG1 hB1 hsz1
  go_enter Tryz.func18, Tryz.ntmps18
  go_wp2_with fail
  rw [HW1.out]
  go_wp2_with fail
  refine (HA.out w1 HB1.out).mono ?_
  rintro e w2 ⟨v2, rfl, hr2, hb2⟩
  have hr2 := hr2.rd.imp (fun u x h => h.rd)
  obtain ⟨c2, cc2, rfl, _, _⟩ := hr2.shape
  have HB2 := Lib.hid (bnext HB1.out hb2)
  have HG2 := Lib.hid (below_block HG1.out hb2)
  have HR2 := Lib.hid hr2
  have HSZ2 := Lib.hid (show w.heap.size < w2.heap.size by have := hb2.size; have := HSZ1.out; omega)
  clear hr2 hb2 q0 q1 q2 q3 HA HW1 HG1 HB1 HSZ1
  go_wp2
  go_loopw [7, 18] (fun v ix wr => ∃ i : Nat, i ≤ L.length ∧ ix = .int .i64 i ∧ Hid (OwnVs w.heap.size w2.heap.size wr v ((L.take i).map (IM.vwOf ms k c f))) ∧ Hid (Below w2.heap.size w2 wr)) (fun _ ix _ => L.length - (intOf ix).toNat)
  case atStart => exact ⟨0, Nat.zero_le _, rfl, Lib.hid (by rw [List.take_zero]; exact ⟨[], OwnG.nil hlVw _ _ _, (fun _ h => by cases h), rfl⟩), Lib.hid (Below.refl _ _)⟩
  case round =>
    obtain ⟨i, hii, rfl, hoe, hbw⟩ := hrel
    obtain ⟨ea, ec, hev, hec, hel⟩ := hoe.out.shape
    obtain ⟨en, hen⟩ : ∃ en, en = ((L.take i).map (IM.vwOf ms k c f)).length := ⟨_, rfl⟩
    rw [← hen] at hev hel
    subst hev
    have HEN := Lib.hid hen
    clear hen
    by_cases hlt : i < L.length
    case neg =>
      have hq2 : ¬ ((i : Int) < (L.length : Int)) := by omega
      have HFO := Lib.hid (show OwnVs w.heap.size w.heap.size wr (.slice ea en ec) (L.map (IM.vwOf ms k c f)) by
        have h9 := hoe.out
        rw [List.take_of_length_le (by omega)] at h9
        exact h9.mono HB2.out.size)
      have HFB := Lib.hid (bnext HB2.out hbw.out)
      clear hoe hbw HEN hec hel HV
      go_wp2
      go_ret
      exact ⟨_, rfl, HFO.out, HFB.out⟩
    have hq2 : (i : Int) < (L.length : Int) := by omega
    have hat := List.getElem?_eq_getElem hlt
    have htk : L.take (i + 1) = L.take i ++ [L[i]] := List.take_succ_eq_append_getElem hlt
    generalize L[i] = x at hat htk
    obtain ⟨xb, xo, xad, xl, xcp, hix, hxb, hxc, hxo⟩ := HR2.out.at_ cfgE i x hat
    have hxc := below_cell hbw.out hxc
    have HTK := Lib.hid htk
    have hGr := below_block HG2.out hbw.out
    obtain ⟨⟨q0, q1, q2, q3⟩, _⟩ := row4_at hGr
    have HRX := Lib.hid (HV.out _ x wr (bnext HB2.out hbw.out) (hxo.below hbw.out) (HOK.out x (List.mem_of_getElem? hat)))
    generalize hX : IM.vwOf ms k c f x = X at *
    have HX := Lib.hid hX
    clear hat htk hxo hGr hX
    go_wp2_with fail
    refine HRX.out.mono ?_
    rintro e w3 ⟨sv, rfl, hb3, hview⟩
    have HVW := Lib.hid (hview w3 (Below.refl _ _))
    have HB3 := Lib.hid hb3
    clear hview hb3 HRX q0 q1 q2 q3 hix hxb hxc
    go_wp2_with fail
    refine HVW.out.mono ?_
    rintro e w4 ⟨sl, rfl, ho4, hb4⟩
    have hb4' := bnext HB3.out hb4
    obtain ⟨a4, c4, rfl, _, _⟩ := ho4.rd.shape
    obtain ⟨n4, hn4⟩ : ∃ n4, n4 = X.1.length := ⟨_, rfl⟩
    rw [← hn4] at ho4 ⊢
    obtain ⟨ps, hp1, hp2, hp3⟩ := hoe.out.below hb4'
    have hpl : ps.length ≤ 1073741824 := by
      have e1 := congrArg List.length hp3
      rw [List.length_map, List.length_map, List.length_take] at e1
      omega
    have HO4 := Lib.hid (ho4.mono (show w.heap.size ≤ w3.heap.size from (bnext (bnext HB2.out hbw.out) HB3.out).size))
    have HB4 := Lib.hid (show Below w2.heap.size w2 w4 from bnext hbw.out hb4')
    have HP2 := Lib.hid hp2
    have HP3 := Lib.hid hp3
    have hs4 := HB4.out.size
    clear ho4 hb4 hn4 HVW hoe hbw hp2 hp3 hb4' HB3
    go_wp2_with (at_builtin; refine wp_appG1 viewE ((a4, n4, c4), X) rfl _ _ rfl rfl hp1 rfl hpl hs4 ?_)
    intro v8 w8 ho8 hb8 hk8 _
    obtain ⟨a8, l8, c8, hv8⟩ : ∃ a l c, v8 = .slice a l c := by obtain ⟨a, c, h, _⟩ := ho8.rd.shape; exact ⟨a, _, c, h⟩
    subst hv8
    have HFO := Lib.hid (show OwnVs w.heap.size w2.heap.size w8 (.slice a8 l8 c8) ((L.take (i + 1)).map (IM.vwOf ms k c f)) by
      rw [HTK.out, List.map_append]
      refine ⟨ps ++ [((a4, n4, c4), X)], ho8, fun q hq => ?_, by rw [List.map_append, HP3.out]; exact congrArg (fun z => _ ++ [z]) HX.out.symm⟩
      rcases List.mem_append.1 hq with h | h
      · exact ownG_keep (HP2.out q h) hk8 (by decide)
      · rw [List.mem_singleton] at h; subst h; exact ownG_keep HO4.out hk8 (by decide))
    have HB8 := Lib.hid (HB4.out.trans hb8)
    clear ho8 hb8 hk8 hp1 HP2 HP3 HB4 HO4 hs4 hpl
    go_wp2
    go_roundw
    case rel => exact ⟨i + 1, by omega, by go_num, HFO, HB8⟩
    case measure => simp [intOf]; omega

end Go.Proofs.YtejafpbobgkibaaGreat
