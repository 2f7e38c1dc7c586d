/-
  The calls of interval.Views and interval.Span at a valid genesis and valid configurations.
  The calls of interval.Views and interval.Span at a valid genesis and valid configurations.
  The call of interval.Span at a valid genesis and valid configurations: the servers of the views, sorted, each once.
-/
import Derived.Test.YthfpafnljnnndaaGreatSI1
import Derived.Test.YthfpafnljnnndaaGreatSIView
import Derived.Test.YthfpafnljnnndaaGreatSIVal
import Derived.Test.YthfpafnljnnndaaGreatSMSum
namespace Go.Proofs.YthfpafnljnnndaaGreat
open Go.RowKit Go.Joins Go.Shelf
open JM (Chg)
open CM (Fp)
open MM (Mem Ent Sm Tri)

abbrev Vw := List Mem × Int × Int × Int
def encVw (p : SV × Vw) : List Value := [svV p.1, .int .i64 p.2.2.1, .int .i64 p.2.2.2.1, .int .i64 p.2.2.2.2]
theorem hlVw : 0 < 4 ∧ ∀ x : SV × Vw, (encVw x).length = 4 := ⟨by decide, fun _ => rfl⟩
theorem viewE : IsElem Tryz.prog 38 41 4 48 encVw where
  ht := Tryz.underlying38
  info := by
    obtain ⟨i0, hi, hz0, hz1, hz2⟩ := info_parts (show (Tryz.prog.info? 41).map (fun i => (i.zero, i.size, i.bytes)) = some (some (.agg #[.slice none 0 0, .int .i64 0, .int .i64 0, .int .i64 0]), 4, 48) by kernel_rfl)
    exact ⟨i0, _, hi, hz0, hz1, hz2, rfl⟩
  len := fun _ => rfl
  one := by
    intro x u hu
    simp only [encVw, List.mem_cons, List.mem_nil_iff, or_false] at hu
    rcases hu with rfl | rfl | rfl | rfl <;> rfl
  pos := by decide
  fits := by decide
/-- A list of views of the call's own; their members are the call's own from block B on. -/
def OwnVs (B base : Nat) (w : World) (v : Value) (ls : List Vw) : Prop := ∃ ps : List (SV × Vw), OwnG encVw 41 4 base w v ps ∧ (∀ p ∈ ps, OwnM B w (svV p.1) p.2.1) ∧ ps.map (·.2) = ls
theorem OwnVs.below {B base : Nat} {w w' : World} {v : Value} {ls : List Vw} (h : OwnVs B base w v ls) (hb : Below w.heap.size w w') : OwnVs B base w' v ls := by
  obtain ⟨ps, h1, h2, h3⟩ := h; exact ⟨ps, h1.below hb, fun p hp => (h2 p hp).below hb, h3⟩
theorem OwnVs.mono {B base b2 : Nat} {w : World} {v : Value} {ls : List Vw} (h : OwnVs B base w v ls) (hle : b2 ≤ base) : OwnVs B b2 w v ls := by
  obtain ⟨ps, h1, h2, h3⟩ := h; exact ⟨ps, h1.mono hle, h2, h3⟩
theorem OwnVs.shape {B base : Nat} {w : World} {v : Value} {ls : List Vw} (h : OwnVs B base w v ls) : ∃ a c, v = .slice a ls.length c ∧ c ≤ 9223372036854775807 ∧ ls.length ≤ c := by
  obtain ⟨ps, h1, _, rfl⟩ := h
  simpa using h1.rd.shape
theorem OwnVs.at_ {B base : Nat} {w : World} {a : Option Addr} {n c : Nat} {ls : List Vw} (h : OwnVs B base w (.slice a n c) ls) (k : Nat) (ms : List Mem) (x y z : Int) (hk : ls[k]? = some (ms, x, y, z)) :
    ∃ b o ad l cp, (∀ w0, (Instr.indexAt 38 (.slice a n c) (.int .i64 (k : Int))).run Tryz.prog w0 = .ok (.pointer (some ⟨b, o, none⟩)) w0) ∧ b < w.heap.size ∧
      w.cell? ⟨b, o, none⟩ = some (.slice ad l cp) ∧ w.cell? ⟨b, o + 1, none⟩ = some (.int .i64 x) ∧ w.cell? ⟨b, o + 2, none⟩ = some (.int .i64 y) ∧ w.cell? ⟨b, o + 3, none⟩ = some (.int .i64 z) ∧ OwnM B w (.slice ad l cp) ms := by
  obtain ⟨ps, h1, h2, rfl⟩ := h
  rw [List.getElem?_map] at hk
  obtain ⟨p, hp, hx⟩ := Option.map_eq_some_iff.1 hk
  obtain ⟨b, o, h3, h4, h5⟩ := h1.rd.at_ viewE k p hp
  have h6 := h2 p (List.mem_of_getElem? hp)
  obtain ⟨⟨ad, l, cp⟩, q⟩ := p
  simp only at hx
  subst hx
  exact ⟨b, o, ad, l, cp, h3, h4, h5 0 _ rfl, h5 1 _ rfl, h5 2 _ rfl, h5 3 _ rfl, h6⟩

namespace IM
def vwOf (ms : List Mem) (k c f : Int) (fs : List Fp) : Vw := (MM.mems (MM.summ ms k c f fs), MM.vk (MM.summ ms k c f fs), (MM.summ ms k c f fs).c, (MM.summ ms k c f fs).f)
def views (ms : List Mem) (k c f : Int) (fa fb : List Fp) : List Vw := (all fa fb).map (vwOf ms k c f)
end IM

set_option maxRecDepth 100000 in
set_option maxHeartbeats 2000000 in
theorem cViewOf (u v : Value) (k c f : Int) (ms : List Mem) (fs : List Fp) (w : World) (hu : RdM w u ms) (h : RdF w v fs) (hg : MM.errG k c f ms = 0) (hml : ms.length ≤ 1000000) (ho : CM.Ok fs) :
    Calls Tryz.prog 47 #[vw u k c f, v] w fun e w' => ∃ sv', e = .returned sv' ∧ Below w.heap.size w w' ∧ ∀ w2, Below w'.heap.size w' w2 →
      Calls Tryz.prog 46 #[sv'] w2 fun e w3 => ∃ sl, e = .returned (vw sl (IM.vwOf ms k c f fs).2.1 (IM.vwOf ms k c f fs).2.2.1 (IM.vwOf ms k c f fs).2.2.2) ∧ OwnM w2.heap.size w3 sl (IM.vwOf ms k c f fs).1 ∧ Below w2.heap.size w2 w3 := by
  obtain ⟨g1, g2, _⟩ := MM.errG_zero hg
  refine (cSummarize u v k c f ms fs w hu h hg hml ho.all (by have := ho.nine; omega)).mono ?_
  rintro e w' ⟨s', rfl, hF, hb⟩
  have ok := (MM.sp_summ g1 g2 ho.all).ok
  exact ⟨s', rfl, hb, fun w2 hb2 => cViewO s' _ w2 (hF.rd.below hb2) ok.r ok.w (okS_len ok)⟩

end Go.Proofs.YthfpafnljnnndaaGreat

namespace Go.Proofs.YthfpafnljnnndaaGreat
open Go.RowKit Go.Joins Go.Shelf
open JM (Chg)
open CM (Fp)
open MM (Mem Ent Sm Tri)

set_option maxRecDepth 100000 in
set_option maxHeartbeats 2000000 in
theorem cViews (u va vb : Value) (k c f : Int) (ms : List Mem) (fa fb : List Fp) (w : World) (hu : RdM w u ms) (h1 : RdF w va fa) (h2 : RdF w vb fb) (o1 : CM.Ok fa) (o2 : CM.Ok fb) (hg : MM.errG k c f ms = 0) (hml : ms.length ≤ 12) :
    Calls Tryz.prog 18 #[vw u k c f, va, vb] w fun e w' => ∃ v, e = .returned v ∧ OwnVs w.heap.size w.heap.size w' v (IM.views ms k c f fa fb) ∧ Below w.heap.size w w' := by
  have HA := Lib.hid (fun w' (hb : Below w.heap.size w w') => cAll va vb fa fb w' (h1.below hb) (h2.below hb) o1 o2)
  have HV := Lib.hid (fun x fs w' (hb : Below w.heap.size w w') (hx : RdF w' x fs) (ho : CM.Ok fs) => cViewOf u x k c f ms fs w' (hu.below hb) hx hg (by omega) ho)
  have HOK := Lib.hid (show ∀ x ∈ IM.all fa fb, CM.Ok x from fun x hx => by obtain ⟨v, _, rfl⟩ := List.mem_map.1 hx; exact o2.rs _)
  have hle : (IM.all fa fb).length ≤ 1000 := by unfold IM.all; rw [List.length_map]; exact (IM.iv_ok o1 o2).2
  have hvd : IM.views ms k c f fa fb = (IM.all fa fb).map (IM.vwOf ms k c f) := rfl
  rw [hvd]
  clear hvd
  obtain ⟨a, ca, rfl, _, _⟩ := h1.shape
  obtain ⟨b, cb, rfl, _, _⟩ := h2.shape
  obtain ⟨ua, uc, rfl, _, _⟩ := hu.shape
  generalize IM.all fa fb = L at *
  generalize ms.length = ml at *
  obtain ⟨w1, hw1, hB1, hG1, hsz1⟩ : ∃ w1, w.alloc (.cells #[.slice ua ml uc, .int .i64 k, .int .i64 c, .int .i64 f] 35) = w1 ∧ Below w.heap.size w w1 ∧ w1.heap[w.heap.size]? = some (.cells #[.slice ua ml uc, .int .i64 k, .int .i64 c, .int .i64 f] 35 (0, 0)) ∧ w1.heap.size = w.heap.size + 1 :=
    ⟨_, rfl, below_fresh _ _, heap_alloc_new _ _, by simp⟩
  have hq12 : ¬ ((12 : Int) < (ml : Int)) := by omega
  obtain ⟨⟨q0, q1, q2, q3⟩, _⟩ := row4_at hG1
  have HW1 := Lib.hid hw1
  have HG1 := Lib.hid hG1
  have HB1 := Lib.hid hB1
  have HSZ1 := Lib.hid hsz1
  clear hu h1 h2 o1 o2 hg hml hw1 hG1 hB1 hsz1
  go_enter Tryz.func18, Tryz.ntmps18
  go_wp2_with fail
  rw [HW1.out]
  go_wp2_with fail
  refine (HA.out w1 HB1.out).mono ?_
  rintro e w2 ⟨v2, rfl, hr2, hb2⟩
  have hr2 := hr2.rd.imp (fun u x h => h.rd)
  obtain ⟨c2, cc2, rfl, _, _⟩ := hr2.shape
  have HB2 := Lib.hid (bnext HB1.out hb2)
  have HG2 := Lib.hid (below_block HG1.out hb2)
  have HR2 := Lib.hid hr2
  have HSZ2 := Lib.hid (show w.heap.size < w2.heap.size by have := hb2.size; have := HSZ1.out; omega)
  clear hr2 hb2 q0 q1 q2 q3 HA HW1 HG1 HB1 HSZ1
  go_wp2
  go_loopw [7, 18] (fun v ix wr => ∃ i : Nat, i ≤ L.length ∧ ix = .int .i64 i ∧ Hid (OwnVs w.heap.size w2.heap.size wr v ((L.take i).map (IM.vwOf ms k c f))) ∧ Hid (Below w2.heap.size w2 wr)) (fun _ ix _ => L.length - (intOf ix).toNat)
  case atStart => exact ⟨0, Nat.zero_le _, rfl, Lib.hid (by rw [List.take_zero]; exact ⟨[], OwnG.nil hlVw _ _ _, (fun _ h => by cases h), rfl⟩), Lib.hid (Below.refl _ _)⟩
  case round =>
    obtain ⟨i, hii, rfl, hoe, hbw⟩ := hrel
    obtain ⟨ea, ec, hev, hec, hel⟩ := hoe.out.shape
    obtain ⟨en, hen⟩ : ∃ en, en = ((L.take i).map (IM.vwOf ms k c f)).length := ⟨_, rfl⟩
    rw [← hen] at hev hel
    subst hev
    have HEN := Lib.hid hen
    clear hen
    by_cases hlt : i < L.length
    case neg =>
      have hq2 : ¬ ((i : Int) < (L.length : Int)) := by omega
      have HFO := Lib.hid (show OwnVs w.heap.size w.heap.size wr (.slice ea en ec) (L.map (IM.vwOf ms k c f)) by
        have h9 := hoe.out
        rw [List.take_of_length_le (by omega)] at h9
        exact h9.mono HB2.out.size)
      have HFB := Lib.hid (bnext HB2.out hbw.out)
      clear hoe hbw HEN hec hel HV
      go_wp2
      go_ret
      exact ⟨_, rfl, HFO.out, HFB.out⟩
    have hq2 : (i : Int) < (L.length : Int) := by omega
    have hat := List.getElem?_eq_getElem hlt
    have htk : L.take (i + 1) = L.take i ++ [L[i]] := List.take_succ_eq_append_getElem hlt
    generalize L[i] = x at hat htk
    obtain ⟨xb, xo, xad, xl, xcp, hix, hxb, hxc, hxo⟩ := HR2.out.at_ cfgE i x hat
    have hxc := below_cell hbw.out hxc
    have HTK := Lib.hid htk
    have hGr := below_block HG2.out hbw.out
    obtain ⟨⟨q0, q1, q2, q3⟩, _⟩ := row4_at hGr
    have HRX := Lib.hid (HV.out _ x wr (bnext HB2.out hbw.out) (hxo.below hbw.out) (HOK.out x (List.mem_of_getElem? hat)))
    generalize hX : IM.vwOf ms k c f x = X at *
    have HX := Lib.hid hX
    clear hat htk hxo hGr hX
    go_wp2_with fail
    refine HRX.out.mono ?_
    rintro e w3 ⟨sv, rfl, hb3, hview⟩
    have HVW := Lib.hid (hview w3 (Below.refl _ _))
    have HB3 := Lib.hid hb3
    clear hview hb3 HRX q0 q1 q2 q3 hix hxb hxc
    go_wp2_with fail
    refine HVW.out.mono ?_
    rintro e w4 ⟨sl, rfl, ho4, hb4⟩
    have hb4' := bnext HB3.out hb4
    obtain ⟨a4, c4, rfl, _, _⟩ := ho4.rd.shape
    obtain ⟨n4, hn4⟩ : ∃ n4, n4 = X.1.length := ⟨_, rfl⟩
    rw [← hn4] at ho4 ⊢
    obtain ⟨ps, hp1, hp2, hp3⟩ := hoe.out.below hb4'
    have hpl : ps.length ≤ 1073741824 := by
      have e1 := congrArg List.length hp3
      rw [List.length_map, List.length_map, List.length_take] at e1
      omega
    have HO4 := Lib.hid (ho4.mono (show w.heap.size ≤ w3.heap.size from (bnext (bnext HB2.out hbw.out) HB3.out).size))
    have HB4 := Lib.hid (show Below w2.heap.size w2 w4 from bnext hbw.out hb4')
    have HP2 := Lib.hid hp2
    have HP3 := Lib.hid hp3
    have hs4 := HB4.out.size
    clear ho4 hb4 hn4 HVW hoe hbw hp2 hp3 hb4' HB3
    go_wp2_with (at_builtin; refine wp_appG1 viewE ((a4, n4, c4), X) rfl _ _ rfl rfl hp1 rfl hpl hs4 ?_)
    intro v8 w8 ho8 hb8 hk8 _
    obtain ⟨a8, l8, c8, hv8⟩ : ∃ a l c, v8 = .slice a l c := by obtain ⟨a, c, h, _⟩ := ho8.rd.shape; exact ⟨a, _, c, h⟩
    subst hv8
    have HFO := Lib.hid (show OwnVs w.heap.size w2.heap.size w8 (.slice a8 l8 c8) ((L.take (i + 1)).map (IM.vwOf ms k c f)) by
      rw [HTK.out, List.map_append]
      refine ⟨ps ++ [((a4, n4, c4), X)], ho8, fun q hq => ?_, by rw [List.map_append, HP3.out]; exact congrArg (fun z => _ ++ [z]) HX.out.symm⟩
      rcases List.mem_append.1 hq with h | h
      · exact ownG_keep (HP2.out q h) hk8 (by decide)
      · rw [List.mem_singleton] at h; subst h; exact ownG_keep HO4.out hk8 (by decide))
    have HB8 := Lib.hid (HB4.out.trans hb8)
    clear ho8 hb8 hk8 hp1 HP2 HP3 HB4 HO4 hs4 hpl
    go_wp2
    go_roundw
    case rel => exact ⟨i + 1, by omega, by go_num, HFO, HB8⟩
    case measure => simp [intOf]; omega

end Go.Proofs.YthfpafnljnnndaaGreat

namespace Go.Proofs.YthfpafnljnnndaaGreat
open Go.RowKit Go.Joins Go.Shelf
open JM (Chg)
open CM (Fp)
open MM (Mem Ent Sm Tri)

namespace IM
def servers (L : List Vw) : List Int := L.flatMap fun v => v.1.map (·.1)
def span (ms : List Mem) (k c f : Int) (fa fb : List Fp) : List Int := Lib.compact (srtI (servers (views ms k c f fa fb)))
theorem servers_take {L : List Vw} {i : Nat} {X : Vw} (h : L[i]? = some X) : servers (L.take (i + 1)) = servers (L.take i) ++ X.1.map (·.1) := by
  unfold servers
  rw [List.take_add_one, h, List.flatMap_append]
  simp
theorem map_take {l : List Mem} {j : Nat} {m : Mem} (h : l[j]? = some m) : (l.take (j + 1)).map (·.1) = (l.take j).map (·.1) ++ [m.1] := by
  rw [List.take_add_one, h, List.map_append]; rfl
theorem servers_len {L : List Vw} (h : ∀ v ∈ L, v.1.length ≤ 12) : (servers L).length ≤ 12 * L.length := by
  unfold servers
  induction L with
  | nil => simp
  | cons v L ih =>
    rw [List.flatMap_cons, List.length_append, List.length_map, List.length_cons]
    have := ih fun x hx => h x (by simp [hx])
    have := h v (by simp)
    omega
theorem srt_twelve {l : List Int} (h : MM.Srt MM.kI l) (hx : ∀ x ∈ l, 1 ≤ x ∧ x ≤ 12) : l.length ≤ 12 := by
  have := srt_len (a := 1) h hx (by decide)
  omega
theorem vw_len {ms : List Mem} {k c f : Int} (hg : MM.errG k c f ms = 0) {x : List Fp} (ho : CM.Ok x) : (vwOf ms k c f x).1.length ≤ 12 := by
  obtain ⟨g1, g2, _⟩ := MM.errG_zero hg
  have ok := (MM.sp_summ g1 g2 ho.all).ok
  show ((MM.summ ms k c f x).J.filter _ |>.map _).length ≤ 12
  rw [List.length_map]
  exact Nat.le_trans (List.length_filter_le _ _) (srt_twelve ok.j ok.js)
theorem views_len {ms : List Mem} {k c f : Int} {fa fb : List Fp} (hg : MM.errG k c f ms = 0) (o1 : CM.Ok fa) (o2 : CM.Ok fb) : (views ms k c f fa fb).length ≤ 1000 ∧ ∀ v ∈ views ms k c f fa fb, v.1.length ≤ 12 := by
  unfold views
  refine ⟨by rw [List.length_map]; unfold all; rw [List.length_map]; exact (iv_ok o1 o2).2, fun v hv => ?_⟩
  obtain ⟨x, hx, rfl⟩ := List.mem_map.1 hv
  obtain ⟨u, _, rfl⟩ := List.mem_map.1 hx
  exact vw_len hg (o2.rs _)
end IM

theorem row2_at {w : World} {g : Nat} {t : TypeId} {a0 a1 : Value} (h : w.heap[g]? = some (.cells #[a0, a1] t (0, 0))) : w.cell? ⟨g, 0, none⟩ = some a0 ∧ w.cell? ⟨g, 1, none⟩ = some a1 := by
  constructor <;> simp [World.cell?, h]
set_option maxRecDepth 100000 in
set_option maxHeartbeats 2000000 in
theorem cSpan (u va vb : Value) (k c f : Int) (ms : List Mem) (fa fb : List Fp) (w : World) (hu : RdM w u ms) (h1 : RdF w va fa) (h2 : RdF w vb fb) (o1 : CM.Ok fa) (o2 : CM.Ok fb) (hg : MM.errG k c f ms = 0) (hml : ms.length ≤ 12) :
    Calls Tryz.prog 22 #[vw u k c f, va, vb] w fun e w' => ∃ v, e = .returned v ∧ RdI w' v (IM.span ms k c f fa fb) ∧ Below w.heap.size w w' := by
  have HA := Lib.hid (fun w' (hb : Below w.heap.size w w') => cViews u va vb k c f ms fa fb w' (hu.below hb) (h1.below hb) (h2.below hb) o1 o2 hg hml)
  obtain ⟨hl1, hl2⟩ := IM.views_len (fa := fa) (fb := fb) hg o1 o2
  have hsp : IM.span ms k c f fa fb = Lib.compact (srtI (IM.servers (IM.views ms k c f fa fb))) := rfl
  rw [hsp]
  clear hsp
  obtain ⟨a, ca, rfl, _, _⟩ := h1.shape
  obtain ⟨b, cb, rfl, _, _⟩ := h2.shape
  obtain ⟨ua, uc, rfl, _, _⟩ := hu.shape
  generalize IM.views ms k c f fa fb = L at *
  generalize ms.length = ml at *
  obtain ⟨w1, hw1, hB1, hG1, hsz1⟩ : ∃ w1, w.alloc (.cells #[.slice ua ml uc, .int .i64 k, .int .i64 c, .int .i64 f] 35) = w1 ∧ Below w.heap.size w w1 ∧ w1.heap[w.heap.size]? = some (.cells #[.slice ua ml uc, .int .i64 k, .int .i64 c, .int .i64 f] 35 (0, 0)) ∧ w1.heap.size = w.heap.size + 1 :=
    ⟨_, rfl, below_fresh _ _, heap_alloc_new _ _, by simp⟩
  obtain ⟨⟨q0, q1, q2, q3⟩, _⟩ := row4_at hG1
  have hll : (IM.servers L).length ≤ 1000000 := by have := IM.servers_len hl2; omega
  have HLL := Lib.hid hll
  have HL2 := Lib.hid hl2
  have HW1 := Lib.hid hw1
  have HB1 := Lib.hid hB1
  have HSZ1 := Lib.hid hsz1
  clear hu h1 h2 o1 o2 hg hml hw1 hG1 hB1 hsz1 hll hl2
  go_enter Tryz.func22, Tryz.ntmps22
  go_wp2_with fail
  rw [HW1.out]
  go_wp2_with fail
  refine (HA.out w1 HB1.out).mono ?_
  rintro e w2 ⟨v2, rfl, hr2, hb2⟩
  obtain ⟨c2, cc2, rfl, _, _⟩ := hr2.shape
  have HB2 := Lib.hid (bnext HB1.out hb2)
  have HR2 := Lib.hid hr2
  have HSZ2 := Lib.hid (show w1.heap.size ≤ w2.heap.size from hb2.size)
  clear hr2 hb2 q0 q1 q2 q3 HA HW1 HB1
  go_wp2
  go_loopw [7, 17] (fun v ix wr => ∃ i : Nat, i ≤ L.length ∧ ix = .int .i64 i ∧ Hid (OwnI w2.heap.size wr v (IM.servers (L.take i))) ∧ Hid (Below w2.heap.size w2 wr)) (fun _ ix _ => L.length - (intOf ix).toNat)
  case atStart => exact ⟨0, Nat.zero_le _, rfl, Lib.hid (by rw [List.take_zero]; exact OwnG.nil hlI _ _ _), Lib.hid (Below.refl _ _)⟩
  case round =>
    obtain ⟨i, hii, rfl, hoe, hbw⟩ := hrel
    obtain ⟨ea, ec, hev, _, _⟩ := hoe.out.rd.shape
    obtain ⟨en, hen⟩ : ∃ n, n = (IM.servers (L.take i)).length := ⟨_, rfl⟩
    rw [← hen] at hev
    have Hen := Lib.hid hen
    clear hen
    subst hev
    by_cases hlt : i < L.length
    case neg =>
      have hq2 : ¬ ((i : Int) < (L.length : Int)) := by omega
      have hfo := hoe.out
      rw [List.take_of_length_le (by omega)] at hfo
      have HD := Lib.hid (cDistinct _ _ wr hfo.rd HLL.out)
      have HFB := Lib.hid (bnext HB2.out hbw.out)
      clear hoe hbw hfo HL2 HLL
      go_wp2_with fail
      refine HD.out.mono ?_
      rintro e w3 ⟨u3, rfl, hr3, hb3⟩
      go_wp2
      go_ret
      exact ⟨_, rfl, hr3, bnext HFB.out hb3⟩
    have hq2 : (i : Int) < (L.length : Int) := by omega
    have hat := List.getElem?_eq_getElem hlt
    have htk := IM.servers_take hat
    have hxl := HL2.out _ (List.mem_of_getElem? hat)
    generalize L[i] = X at hat htk hxl
    obtain ⟨xm, x1, x2, x3⟩ := X
    obtain ⟨xb, xo, xad, xl, xcp, hix, hxb, c0, c1, c2', c3, hxo⟩ := HR2.out.at_ i xm x1 x2 x3 hat
    have c0 := below_cell hbw.out c0
    have c1 := below_cell hbw.out c1
    have c2 := below_cell hbw.out c2'
    have c3 := below_cell hbw.out c3
    clear c2'
    have HTK := Lib.hid (show IM.servers (L.take (i + 1)) = IM.servers (L.take i) ++ xm.map (·.1) from htk)
    have hxl : xm.length ≤ 12 := hxl
    obtain ⟨w3, hw3, hB3, hG3⟩ : ∃ w3, wr.alloc (.cells #[.slice xad xl xcp, .int .i64 x1, .int .i64 x2, .int .i64 x3] 41) = w3 ∧ Below wr.heap.size wr w3 ∧ w3.heap[wr.heap.size]? = some (.cells #[.slice xad xl xcp, .int .i64 x1, .int .i64 x2, .int .i64 x3] 41 (0, 0)) :=
      ⟨_, rfl, below_fresh _ _, heap_alloc_new _ _⟩
    have hxl2 : xl = xm.length := by obtain ⟨a', c', he, _⟩ := hxo.rd.shape; cases he; rfl
    subst hxl2
    have HXO := Lib.hid (show ∀ w', Below w2.heap.size w2 w' → RdM w' (.slice xad xm.length xcp) xm from fun w' hb => (hxo.below hb).rd)
    have HW3 := Lib.hid hw3
    have HO3 := Lib.hid (show OwnI w2.heap.size w3 (.slice ea en ec) (IM.servers (L.take i) ++ (xm.take 0).map (·.1)) by rw [List.take_zero, List.map_nil, List.append_nil]; exact hoe.out.below hB3)
    have HB3 := Lib.hid (bnext hbw.out hB3)
    obtain ⟨⟨q0, q1, q2, q3⟩, _⟩ := row4_at hG3
    have hsl : (IM.servers (L.take i)).length ≤ 12000 := by
      have := IM.servers_len (L := L.take i) (fun v hv => HL2.out v (List.mem_of_mem_take hv))
      rw [List.length_take] at this
      omega
    clear hat htk hxo hoe hbw hw3 hB3 hG3
    go_upto_region 5 with fail
    rw [HW3.out]
    clear c0 c1 c2 c3 hix hxb
    go_wp2
    clear q0 q1 q2 q3
    obtain ⟨wo, hwo⟩ : ∃ wo, wo = wr := ⟨_, rfl⟩
    rw [← hwo] at HW3
    clear hwo
    go_loopw [7, 24] (fun v jx wr => ∃ j : Nat, j ≤ xm.length ∧ jx = .int .i64 j ∧ Hid (OwnI w2.heap.size wr v (IM.servers (L.take i) ++ (xm.take j).map (·.1))) ∧ Hid (Below w2.heap.size w2 wr)) (fun _ jx _ => xm.length - (intOf jx).toNat)
    case atStart => exact ⟨0, Nat.zero_le _, rfl, HO3, HB3⟩
    case round =>
      obtain ⟨j, hjj, rfl, hoe, hbw⟩ := hrel
      clear HO3
      obtain ⟨ga, gc, hgv, _, _⟩ := hoe.out.rd.shape
      obtain ⟨gn, hgn⟩ : ∃ n, n = (IM.servers (L.take i) ++ (xm.take j).map (·.1)).length := ⟨_, rfl⟩
      rw [← hgn] at hgv
      have Hgn := Lib.hid hgn
      clear hgn
      subst hgv
      by_cases hlj : j < xm.length
      case neg =>
        have hq3 : ¬ ((j : Int) < (xm.length : Int)) := by omega
        have hfo := hoe.out
        rw [List.take_of_length_le (l := xm) (i := j) (by omega), ← HTK.out] at hfo
        have HFO := Lib.hid hfo
        have HFB := hbw
        clear hoe hfo
        go_wp2
        go_roundw
        case rel => exact ⟨i + 1, by omega, by go_num, HFO, HFB⟩
        case measure => simp [intOf]; omega
      have hq3 : (j : Int) < (xm.length : Int) := by omega
      have hat := List.getElem?_eq_getElem hlj
      have htk := IM.map_take hat
      generalize xm[j] = m at hat htk
      obtain ⟨b3, o3, hi3, hb3, d0, d1⟩ := atM (HXO.out wr hbw.out) j m hat
      have HTK2 := Lib.hid htk
      obtain ⟨m1, m2⟩ := m
      obtain ⟨w4, hw4, hB4⟩ : ∃ w4, wr.alloc (.cells #[.int .i64 m1, .int .i64 m2] 63) = w4 ∧ Below wr.heap.size wr w4 := ⟨_, rfl, below_fresh _ _⟩
      have hG4 := heap_alloc_new wr (.cells #[.int .i64 m1, .int .i64 m2] 63)
      rw [hw4] at hG4
      obtain ⟨e0, e1⟩ := row2_at hG4
      have ho4 := hoe.out.below hB4
      have HO4 := Lib.hid ho4
      have HB4 := Lib.hid (bnext hbw.out hB4)
      have hs4 : w2.heap.size ≤ w4.heap.size := HB4.out.size
      have hyl : (IM.servers (L.take i) ++ (xm.take j).map (·.1)).length ≤ 1073741824 := by rw [List.length_append, List.length_map, List.length_take]; omega
      have HW4 := Lib.hid hw4
      clear hat htk hw4 hB4 hG4 ho4 hoe hbw
      go_upto_region 8 with fail
      rw [HW4.out]
      clear d0 d1 hi3 hb3
      go_wp2_with (at_builtin; refine wp_appG1 intE m1 rfl _ _ rfl rfl HO4.out rfl hyl hs4 ?_)
      intro v8 w8 ho8 hb8 _ _
      obtain ⟨a8, l8, c8, hv8⟩ : ∃ a l c, v8 = .slice a l c := by obtain ⟨a, c, h, _⟩ := ho8.rd.shape; exact ⟨a, _, c, h⟩
      subst hv8
      have HO8 := Lib.hid (show OwnI w2.heap.size w8 (.slice a8 l8 c8) (IM.servers (L.take i) ++ (xm.take (j + 1)).map (·.1)) by rw [HTK2.out]; simpa only [List.map_take, List.append_assoc] using ho8)
      have HB8 := Lib.hid (show Below w2.heap.size w2 w8 from HB4.out.trans hb8)
      clear ho8 hb8 e0 e1 HO4 HW4 hyl hs4
      go_wp2
      go_roundw
      case rel => exact ⟨j + 1, by omega, by go_num, HO8, HB8⟩
      case measure => simp [intOf]; omega

end Go.Proofs.YthfpafnljnnndaaGreat
