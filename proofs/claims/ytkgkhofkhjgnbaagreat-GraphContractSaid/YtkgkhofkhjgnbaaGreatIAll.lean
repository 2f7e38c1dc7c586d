/-
  The call of interval.All at valid configurations: the parts of the greater one, by the vectors in their order.
-/
import Derived.Test.YtkgkhofkhjgnbaaGreatIVec
namespace Go.Proofs.YtkgkhofkhjgnbaaGreat
open Go.RowKit Go.Joins Go.Shelf
open JM (Chg)
open CM (Fp)
open VM (Ent)

theorem IM.iv_ok {fa fb : List Fp} (o1 : CM.Ok fa) (o2 : CM.Ok fb) : (∀ x ∈ IM.iv fa fb, VM.Val 0 x ∧ x.length ≤ 1000) ∧ (IM.iv fa fb).length ≤ 1000 := by
  unfold IM.iv
  split
  · rename_i hc
    have s1 := CM.vo_spec o1
    have s2 := CM.vo_spec o2
    have hv := IM.vs_ok (VM.cnt (CM.vo fa)) (VM.cnt (CM.vo fb)) (fun a => by rw [s1.2]; exact CM.ct_pos _ _) (fun a => by rw [s2.2]; exact o2.ct3 a) (fun a => by
      rw [s1.2, s2.2]
      by_cases hz : CM.ct fa a < 1
      · have := CM.ct_pos fb a; omega
      · have h3 := (o1.has a (CM.ct fa a) (by omega)).2 (Int.le_refl _)
        obtain ⟨f, hf, e1, e2⟩ := CM.hasK_iff.1 h3
        exact (o2.has a (CM.ct fa a) (by omega)).1 (CM.hasK_iff.2 ⟨f, CM.cons_iff.1 hc f hf, e1, e2⟩)) 3
    exact ⟨fun x hx => ⟨(hv.1 x hx).1, by have := (hv.1 x hx).2; omega⟩, by have := hv.2; omega⟩
  · exact ⟨fun x hx => by simp at hx, by simp⟩

set_option maxRecDepth 100000 in
set_option maxHeartbeats 2000000 in
theorem cAll (va vb : Value) (fa fb : List Fp) (w : World) (h1 : RdF w va fa) (h2 : RdF w vb fb) (o1 : CM.Ok fa) (o2 : CM.Ok fb) :
    Calls Tryz.prog 38 #[va, vb] w fun e w' => ∃ v, e = .returned v ∧ OwnLs (fun w' u x => OwnD w.heap.size w' u x) 24 w.heap.size w' v (IM.all fa fb) ∧ Below w.heap.size w w' := by
  have HV := Lib.hid (cVecs va vb fa fb w h1 h2 o1 o2)
  obtain ⟨hv1, hv2⟩ := IM.iv_ok o1 o2
  have HR := Lib.hid (fun u x w' (hb : Below w.heap.size w w') (hu : VX.RdV w' u x) (hx : VM.Val 0 x ∧ x.length ≤ 1000) => gRestrictO vb u fb x w' (h2.below hb) hu hx.1 hx.2 (by have := o2.nine; omega) (all_len o2.all))
  obtain ⟨a, ca, rfl, _, _⟩ := h1.shape
  obtain ⟨b, cb, rfl, _, _⟩ := h2.shape
  have hall : IM.all fa fb = (IM.iv fa fb).map fun v => CM.rs fb (VM.cnt v) := rfl
  rw [hall]
  generalize IM.iv fa fb = L at *
  have HV1 := Lib.hid hv1
  clear h1 h2 o1 o2 hall hv1
  go_enter Tryz.func38, Tryz.ntmps38
  go_wp2_with fail
  refine HV.out.mono ?_
  rintro e w1 ⟨v1, rfl, hr1, hb1⟩
  obtain ⟨c, cc, rfl, _, _⟩ := hr1.shape
  have HR1 := Lib.hid hr1
  have HB1 := Lib.hid hb1
  clear hr1 hb1 HV
  go_wp2
  go_loopw [5, 12] (fun v ix wr => ∃ i : Nat, i ≤ L.length ∧ ix = .int .i64 i ∧ Hid (OwnLs (fun w' u x => OwnD w.heap.size w' u x) 24 w1.heap.size wr v ((L.take i).map fun v => CM.rs fb (VM.cnt v))) ∧ Hid (Below w1.heap.size w1 wr)) (fun _ ix _ => L.length - (intOf ix).toNat)
  case atStart => exact ⟨0, Nat.zero_le _, rfl, Lib.hid (by rw [List.take_zero]; exact OwnLs.nil _ _ _), Lib.hid (Below.refl _ _)⟩
  case round =>
    obtain ⟨i, hii, rfl, hoe, hbw⟩ := hrel
    obtain ⟨ea, ec, hev, hec, hel⟩ := hoe.out.rd.shape
    obtain ⟨en, hen⟩ : ∃ en, en = ((L.take i).map fun v => CM.rs fb (VM.cnt v)).length := ⟨_, rfl⟩
    rw [← hen] at hev hel
    subst hev
    have HEN := Lib.hid hen
    clear hen
    by_cases hlt : i < L.length
    case neg =>
      have hq2 : ¬ ((i : Int) < (L.length : Int)) := by omega
      have HFO := Lib.hid (show OwnLs (fun w' u x => OwnD w.heap.size w' u x) 24 w.heap.size wr (.slice ea en ec) (L.map fun v => CM.rs fb (VM.cnt v)) by
        have h9 := hoe.out
        rw [List.take_of_length_le (by omega)] at h9
        exact h9.mono HB1.out.size)
      have HFB := Lib.hid (bnext HB1.out hbw.out)
      clear hoe hbw HEN hec hel HR
      go_wp2
      go_ret
      exact ⟨_, rfl, HFO.out, HFB.out⟩
    have hq2 : (i : Int) < (L.length : Int) := by omega
    have hat := List.getElem?_eq_getElem hlt
    have htk : L.take (i + 1) = L.take i ++ [L[i]] := List.take_succ_eq_append_getElem hlt
    generalize L[i] = x at hat htk
    obtain ⟨xb, xo, xad, xl, xcp, hix, hxb, hxc, hxo⟩ := HR1.out.at_ vecE i x hat
    have hxc := below_cell hbw.out hxc
    have HTK := Lib.hid htk
    have HRX := Lib.hid (HR.out _ x wr (bnext HB1.out hbw.out) (hxo.below hbw.out) (HV1.out x (List.mem_of_getElem? hat)))
    clear hat htk hxo
    go_wp2_with fail
    refine HRX.out.mono ?_
    rintro e w2 ⟨v2, rfl, ho2, hb2⟩
    obtain ⟨a2, c2, hv2, _, _⟩ := ho2.rd.shape
    obtain ⟨n2, hn2⟩ : ∃ n2, n2 = (CM.rs fb (VM.cnt x)).length := ⟨_, rfl⟩
    rw [← hn2] at hv2
    subst hv2
    obtain ⟨ps, hp1, hp2, hp3⟩ := hoe.out.below hb2 (fun u x h => h.below hb2)
    have hpl : ps.length ≤ 1073741824 := by
      have e1 := congrArg List.length hp3
      rw [List.length_map, List.length_map, List.length_take] at e1
      omega
    have HO2 := Lib.hid (ho2.mono (bnext HB1.out hbw.out).size)
    have HB2 := Lib.hid (show Below w1.heap.size w1 w2 from bnext hbw.out hb2)
    have HP2 := Lib.hid hp2
    have HP3 := Lib.hid hp3
    have hs2 := HB2.out.size
    clear ho2 hb2 hn2 HRX hoe hbw hp2 hp3 hxc hxb hix
    go_wp2_with (at_builtin; refine wp_appG1 cfgE ((a2, n2, c2), CM.rs fb (VM.cnt x)) rfl _ _ rfl rfl hp1 rfl hpl hs2 ?_)
    intro v8 w8 ho8 hb8 hk8 _
    obtain ⟨a8, l8, c8, hv8⟩ : ∃ a l c, v8 = .slice a l c := by obtain ⟨a, c, h, _⟩ := ho8.rd.shape; exact ⟨a, _, c, h⟩
    subst hv8
    have HFO := Lib.hid (show OwnLs (fun w' u x => OwnD w.heap.size w' u x) 24 w1.heap.size w8 (.slice a8 l8 c8) ((L.take (i + 1)).map fun v => CM.rs fb (VM.cnt v)) by
      rw [HTK.out, List.map_append]
      exact OwnLs.snoc HP2.out HP3.out ho8 (fun u y h => h.keep hk8 (by decide) (by decide)) (HO2.out.keep hk8 (by decide) (by decide)))
    have HB8 := Lib.hid (HB2.out.trans hb8)
    clear ho8 hb8 hk8 hp1 HP2 HP3 HB2 HO2 hs2 hpl
    go_wp2
    go_roundw
    case rel => exact ⟨i + 1, by omega, by go_num, HFO, HB8⟩
    case measure => simp [intOf]; omega

end Go.Proofs.YtkgkhofkhjgnbaaGreat
