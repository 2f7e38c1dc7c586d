/-
  The program's calls graph.connect and graph.Build: the nodes, and the edges between them. Conditions: the nodes read, and are parts of one configuration.
-/
import Derived.Test.YtkgkhofkhjgnbaaGreatGMid
namespace Go.Proofs.YtkgkhofkhjgnbaaGreat
open Go.RowKit Go.Joins Go.Shelf
open JM (Chg)
open CM (Fp)
open VM (Ent)

/-! ### A result that lies in a block of the call's own -/
theorem row2F {w : World} {g : Nat} {t : TypeId} {a0 a1 : Value} (h : w.heap[g]? = some (.cells #[a0, a1] t (0, 0))) :
    (w.cell? ⟨g, 0, none⟩ = some a0 ∧ w.cell? ⟨g, 1, none⟩ = some a1) ∧ (w.frozen? ⟨g, 0, none⟩ = false ∧ w.frozen? ⟨g, 1, none⟩ = false) := by
  refine ⟨⟨?_, ?_⟩, ⟨?_, ?_⟩⟩
  all_goals first | (simp [World.cell?, h]; done) | (simp [World.frozen?, h]; done)
theorem keepsX_set {w : World} {g : Nat} {t : TypeId} {cs : Array Value} {fr : Nat × Nat} (h : w.heap[g]? = some (.cells cs t fr)) (j : Nat) (v : Value) : KeepsX t w (w.setCell ⟨g, j, none⟩ v) := by
  intro k hk hne
  refine heap_setCell_other w ⟨g, j, none⟩ k v ?_
  rintro rfl
  exact hne _ _ h
theorem row2_put {w : World} {g : Nat} {t : TypeId} {a0 a1 : Value} (h : w.heap[g]? = some (.cells #[a0, a1] t (0, 0))) (b0 b1 : Value) (B : Nat) (hB : B ≤ g) :
    ((w.setCell ⟨g, 0, none⟩ b0).setCell ⟨g, 1, none⟩ b1).heap[g]? = some (.cells #[b0, b1] t (0, 0)) ∧ Below B w ((w.setCell ⟨g, 0, none⟩ b0).setCell ⟨g, 1, none⟩ b1) ∧ KeepsX t w ((w.setCell ⟨g, 0, none⟩ b0).setCell ⟨g, 1, none⟩ b1) := by
  have h1 : (w.setCell ⟨g, 0, none⟩ b0).heap[g]? = some (.cells #[b0, a1] t (0, 0)) := heap_setCell_same w g 0 _ _ b0 h
  have o1 : Below B w (w.setCell ⟨g, 0, none⟩ b0) := (Below.refl B w).setCell hB _
  have k1 := keepsX_set h 0 b0
  have s1 := o1.size
  generalize w.setCell ⟨g, 0, none⟩ b0 = w1 at h1 o1 k1 s1 ⊢
  exact ⟨heap_setCell_same w1 g 1 _ _ b1 h1, o1.setCell hB _, k1.trans s1 (keepsX_set h1 1 b1)⟩
theorem ownG_keepX {α : Type} {enc : α → List Value} {e e' : TypeId} {size base : Nat} {w w' : World} {v : Value} {xs : List α} (h : OwnG enc e' size base w v xs) (he : e ≠ e') (hk : KeepsX e w w') : OwnG enc e' size base w' v xs := by
  refine ⟨⟨h.1.1, ?_⟩, h.2⟩
  rcases h.1.2 with h6 | ⟨gg, cap, cur, hv, hgg, hh, r⟩
  · exact .inl h6
  · refine .inr ⟨gg, cap, cur, hv, hgg, ?_, r⟩
    rw [hk gg (Array.getElem?_eq_some_iff.1 hh).1 (by intro cur' fr' e'; rw [hh] at e'; injection e' with e'; injection e' with _ ht; exact he ht.symm)]
    exact hh
theorem OwnLs.keepX {β : Type} {R : World → Value → β → Prop} {e e' : TypeId} {base : Nat} {w w' : World} {v : Value} {ls : List β} (h : OwnLs R e' base w v ls) (he : e ≠ e') (hk : KeepsX e w w') (hR : ∀ u x, R w u x → R w' u x) : OwnLs R e' base w' v ls := by
  obtain ⟨ps, h1, h2, h3⟩ := h; exact ⟨ps, ownG_keepX h1 he hk, fun p hp => hR _ _ (h2 p hp), h3⟩
/-- What lay in w stays, but the block g. -/
def OnlyB (g : Nat) (w w' : World) : Prop := w'.os = w.os ∧ w'.tape = w.tape ∧ w'.output = w.output ∧ w.heap.size ≤ w'.heap.size ∧ ∀ k, k < w.heap.size → k ≠ g → w'.heap[k]? = w.heap[k]?
theorem OnlyB.refl (g : Nat) (w : World) : OnlyB g w w := ⟨rfl, rfl, rfl, Nat.le_refl _, fun _ _ _ => rfl⟩
theorem OnlyB.app {g : Nat} {a b c : World} (h : OnlyB g a b) (k : Below a.heap.size b c) : OnlyB g a c :=
  ⟨k.os.trans h.1, k.tape.trans h.2.1, k.output.trans h.2.2.1, Nat.le_trans h.2.2.2.1 k.size, fun i hi hne => (k.block i hi).trans (h.2.2.2.2 i hi hne)⟩
theorem OnlyB.set {g : Nat} {a b : World} (h : OnlyB g a b) (j : Nat) (v : Value) : OnlyB g a (b.setCell ⟨g, j, none⟩ v) := by
  have o : Below 0 b (b.setCell ⟨g, j, none⟩ v) := (Below.refl 0 b).setCell (Nat.zero_le _) _
  exact ⟨o.os.trans h.1, o.tape.trans h.2.1, o.output.trans h.2.2.1, Nat.le_trans h.2.2.2.1 o.size, fun i hi hne => (heap_setCell_other b ⟨g, j, none⟩ i v hne).trans (h.2.2.2.2 i hi hne)⟩
theorem OnlyB.below {g B : Nat} {a b : World} (h : OnlyB g a b) (hB : B ≤ g) (hB2 : B ≤ a.heap.size) : Below B a b :=
  ⟨h.1, h.2.1, h.2.2.1, h.2.2.2.1, fun k hk => h.2.2.2.2 k (by omega) (by omega)⟩
theorem OnlyB.at_ {g : Nat} {a b : World} (h : OnlyB g a b) {k : Nat} {o : Obj} (hk : a.heap[k]? = some o) (hne : k ≠ g) : b.heap[k]? = some o := (h.2.2.2.2 k (Array.getElem?_eq_some_iff.1 hk).1 hne).trans hk

/-- A graph in memory of the call's own. -/
def OwnGr (base : Nat) (w : World) (v : Value) (L : List (List Fp)) : Prop := ∃ nv ev, v = .agg #[nv, ev] ∧ OwnLs (OwnD base) 24 base w nv L ∧ OwnE2 base w ev (IM.edgK L)
theorem con_ret {R : Ending → World → Prop} {a : Act} {w : World} {g : Nat} {x0 x1 : Value} (hp : a.tmps.getD 2 undef = .pointer (some ⟨g, 0, none⟩)) (hg : w.heap[g]? = some (.cells #[x0, x1] 31 (0, 0)))
    (hd : a.defers = []) (hR : R (.returned (.agg #[x0, x1])) w) : bodyPost Tryz.prog Tryz.f37 R .ret a w :=
  bodyPost_ret (results_cell_row (P := Tryz.prog) rfl a.tmps w g 31 _ _ _ hp hg Tryz.underlying31 rfl (by kernel_rfl)) hd hR

set_option maxRecDepth 100000 in
set_option maxHeartbeats 8000000 in
theorem cConnect (nv : Value) (L : List (List Fp)) (w : World) (h : RdLs RdF w nv L) (p : List Fp) (op : CM.Ok p) (gd : IM.Gd p L) :
    Calls Tryz.prog 37 #[nv] w fun e w' => ∃ ev, e = .returned (.agg #[nv, ev]) ∧ OwnE2 w.heap.size w' ev (IM.edgK L) ∧ Below w.heap.size w w' := by
  obtain ⟨na, nc, rfl, _, _⟩ := h.shape
  have hl : L.length ≤ 1000 := by have := gd.1; omega
  have HOK := Lib.hid gd.2
  have hz := heap_alloc_new (w.alloc (.cells #[.slice none 0 0, .slice none 0 0] 31)) (.cells #[.slice na L.length nc, .slice none 0 0] 31)
  have hy := heap_alloc_new w (.cells #[.slice none 0 0, .slice none 0 0] 31)
  have b1 := below_fresh w (.cells #[.slice none 0 0, .slice none 0 0] 31)
  have b2 := below_fresh (w.alloc (.cells #[.slice none 0 0, .slice none 0 0] 31)) (.cells #[.slice na L.length nc, .slice none 0 0] 31)
  rw [World.size_alloc] at hz
  obtain ⟨w0, hw0⟩ : ∃ z, (w.alloc (.cells #[.slice none 0 0, .slice none 0 0] 31)).alloc (.cells #[.slice na L.length nc, .slice none 0 0] 31) = z := ⟨_, rfl⟩
  have hs0 : w0.heap.size = w.heap.size + 2 := by rw [← hw0]; simp
  rw [hw0] at hz b2
  have HY := Lib.hid (below_block hy b2)
  have HZ := Lib.hid hz
  have HB := Lib.hid (bnext b1 b2)
  have HW := Lib.hid hw0
  have HS := Lib.hid hs0
  have HN := Lib.hid h
  clear h gd hz hy b1 b2 hw0 hs0
  go_enter Tryz.func37, Tryz.ntmps37
  go_upto_region 2 with fail
  rw [HW.out]
  go_wp2
  go_loopw [12] (fun ix wr => ∃ i : Nat, i ≤ L.length ∧ ix = .int .i64 i ∧ Hid (∃ ea en ec, wr.heap[w.heap.size + 1]? = some (.cells #[.slice na L.length nc, .slice ea en ec] 31 (0, 0)) ∧ OwnE2 w0.heap.size wr (.slice ea en ec) (IM.edgT L i)) ∧ Hid (OnlyB (w.heap.size + 1) w0 wr)) (fun ix _ => L.length - (intOf ix).toNat)
  case atStart => exact ⟨0, Nat.zero_le _, rfl, Lib.hid ⟨_, _, _, HZ.out, OwnG.nil hlE2 _ _ _⟩, Lib.hid (OnlyB.refl _ _)⟩
  case round =>
    obtain ⟨i, hii, rfl, hoe, hbw⟩ := hrel
    obtain ⟨ea, en, ec, hbx, hown⟩ := hoe.out
    have HBX := Lib.hid hbx
    have HOE := Lib.hid hown
    clear hoe hbx hown
    by_cases hlt : i < L.length
    case neg =>
      have hq2 : ¬ ((i : Int) < (L.length : Int)) := by omega
      obtain rfl : i = L.length := by omega
      clear hlt hii
      have HYR := Lib.hid (hbw.out.at_ HY.out (by omega))
      have HBE := Lib.hid (HB.out.trans (hbw.out.below (B := w.heap.size) (by omega) (by have := HS.out; omega)))
      obtain ⟨⟨c0, c1⟩, _⟩ := row2F HBX.out
      obtain ⟨_, f0, f1⟩ := row2F HYR.out
      clear hbw
      go_wp2
      obtain ⟨p1, p2, p3⟩ := row2_put HYR.out (.slice na L.length nc) (.slice ea en ec) w.heap.size (Nat.le_refl _)
      have HE2 := ownG_keepX HOE.out (by decide) p3
      exact con_ret rfl p1 rfl ⟨_, rfl, HE2.mono (by have := HS.out; omega), HBE.out.trans p2⟩
    have hq2 : (i : Int) < (L.length : Int) := by omega
    have hat := List.getElem?_eq_getElem hlt
    generalize L[i] = f at hat
    have HAT := Lib.hid hat
    have HOF := Lib.hid (HOK.out f (List.mem_of_getElem? hat)).1
    have HPF := Lib.hid (HOK.out f (List.mem_of_getElem? hat)).2
    have hbe : Below w.heap.size w wr := HB.out.trans (hbw.out.below (B := w.heap.size) (by omega) (by have := HS.out; omega))
    obtain ⟨xb, xo, xad, xl, xcp, hix, hxb, hxc, hxo⟩ := HN.out.at_ cfgE i f hat
    obtain ⟨fa', fc', hfs, _, _⟩ := hxo.shape
    obtain rfl : xl = f.length := by cases hfs; rfl
    have HFL := Lib.hid (show (IM.edgT L i).length ≤ 1000000 by
      have h1 := IM.edgT_len L i
      have h2 : i * L.length ≤ 1000 * 1000 := Nat.mul_le_mul (by omega) hl
      omega)
    have hfl : f.length ≤ 1000 := by have := HOF.out.nine; omega
    have hxc := below_cell hbe hxc
    have HXO := Lib.hid hxo
    have HO3 := Lib.hid (show ∃ ea en ec, wr.heap[w.heap.size + 1]? = some (.cells #[.slice na L.length nc, .slice ea en ec] 31 (0, 0)) ∧ OwnE2 w0.heap.size wr (.slice ea en ec) (IM.edgT L i ++ IM.row2 L i 0) from ⟨_, _, _, HBX.out, by rw [show IM.row2 L i 0 = [] from rfl, List.append_nil]; exact HOE.out⟩)
    have HB3 := hbw
    clear hat hxo hxb hfs hbw hbe HBX HOE
    go_wp2
    clear hix hxc
    go_loopw [19] (fun jx wr => ∃ j : Nat, j ≤ L.length ∧ jx = .int .i64 j ∧ Hid (∃ ea en ec, wr.heap[w.heap.size + 1]? = some (.cells #[.slice na L.length nc, .slice ea en ec] 31 (0, 0)) ∧ OwnE2 w0.heap.size wr (.slice ea en ec) (IM.edgT L i ++ IM.row2 L i j)) ∧ Hid (OnlyB (w.heap.size + 1) w0 wr)) (fun jx _ => L.length - (intOf jx).toNat)
    case atStart => exact ⟨0, Nat.zero_le _, rfl, HO3, HB3⟩
    case round =>
      obtain ⟨j, hjj, rfl, hoi, hbv⟩ := hrel
      clear HO3 HB3
      by_cases hlj : j < L.length
      case neg =>
        have hq3 : ¬ ((j : Int) < (L.length : Int)) := by omega
        obtain rfl : j = L.length := by omega
        have HO := Lib.hid (show ∃ ea en ec, wr.heap[w.heap.size + 1]? = some (.cells #[.slice na L.length nc, .slice ea en ec] 31 (0, 0)) ∧ OwnE2 w0.heap.size wr (.slice ea en ec) (IM.edgT L (i + 1)) by rw [IM.edgT_snoc]; exact hoi.out)
        clear hoi hlj hjj
        go_wp2
        go_roundw
        case rel => exact ⟨i + 1, by omega, by go_num, HO, hbv⟩
        case measure => simp [intOf]; omega
      have hq3 : (j : Int) < (L.length : Int) := by omega
      have hatj := List.getElem?_eq_getElem hlj
      generalize L[j] = g at hatj
      have HOG := Lib.hid (HOK.out g (List.mem_of_getElem? hatj)).1
      have hcc := IM.conk_part op (HOK.out g (List.mem_of_getElem? hatj)).2 HPF.out
      obtain ⟨yb, yo, yad, yl, ycp, hiy, hyb, hyc, hyo⟩ := HN.out.at_ cfgE j g hatj
      obtain ⟨fb', fd', hgs, _, _⟩ := hyo.shape
      obtain rfl : yl = g.length := by cases hgs; rfl
      have hgl : g.length ≤ 1000 := by have := HOG.out.nine; omega
      have hE := IM.isE_of HAT.out hatj
      have hbe : Below w.heap.size w wr := HB.out.trans (hbv.out.below (B := w.heap.size) (by omega) (by have := HS.out; omega))
      have hyc := below_cell hbe hyc
      have hg := oContains _ _ g f wr (hyo.below hbe) (HXO.out.below hbe) HOG.out
      rw [← hcc] at hg
      have HG := Lib.hid hg
      clear hatj hyo hgs hyb hg hcc hbe
      by_cases hle : g.length = f.length + 1
      · have hl1 : ((g.length : Int) == (f.length : Int) + 1) = true := by simpa using (show (g.length : Int) = (f.length : Int) + 1 by omega)
        rw [decide_eq_true hle, Bool.true_and] at hE
        cases hp : CM.conk g f with
        | true =>
          rw [hp] at hE HG
          have HNX := Lib.hid (IM.row2_hit hE)
          obtain ⟨ea, en, ec, hbx, hown⟩ := hoi.out
          have HBX := Lib.hid hbx
          have HOE := Lib.hid hown
          clear hE hp hle hoi hbx hown
          go_wp2_with fail
          refine HG.out.mono ?_
          rintro e wz ⟨rfl, hq⟩
          have hox := Lib.hid (HOE.out.below hq)
          have hbx := Lib.hid (below_block HBX.out hq)
          have hon := Lib.hid (hbv.out.app (hq.mono hbv.out.2.2.2.1))
          clear HG hl1 hbv hiy hyc hq HBX HOE
          have hyl : (IM.edgT L i ++ IM.row2 L i j).length ≤ 1073741824 := by
            have h1 := HFL.out
            have h2 := IM.row2_len L i j
            rw [List.length_append]; omega
          have hsz : w0.heap.size ≤ wz.heap.size := hon.out.2.2.2.1
          have ho := hox.out
          obtain ⟨⟨c0, c1⟩, _⟩ := row2F hbx.out
          clear hox
          go_wp2_with (at_builtin; refine wp_appG1 edgE (i, j) rfl _ _ rfl rfl ho rfl hyl hsz ?_)
          intro v8 w8 ho8 hb8 hk8 _
          obtain ⟨a8, l8, c8, hv8⟩ : ∃ a l c, v8 = .slice a l c := by obtain ⟨a, c, h, _⟩ := ho8.rd.shape; exact ⟨a, _, c, h⟩
          subst hv8
          have hx8 := hk8.at hbx.out (by decide)
          have HX9 := Lib.hid (heap_setCell_same w8 (w.heap.size + 1) 1 _ _ (.slice a8 l8 c8) hx8)
          have HO9 := Lib.hid (show OwnE2 w0.heap.size (w8.setCell ⟨w.heap.size + 1, 1, none⟩ (.slice a8 l8 c8)) (.slice a8 l8 c8) (IM.edgT L i ++ IM.row2 L i (j + 1)) by rw [HNX.out]; simpa only [List.append_assoc] using ownG_keepX ho8 (by decide) (keepsX_set hx8 1 _))
          have HB9 := Lib.hid ((hon.out.app hb8).set 1 (.slice a8 l8 c8))
          obtain ⟨_, _, f1⟩ := row2F hx8
          clear ho8 hb8 ho hyl hsz hbx hon c0 c1 hx8 hk8
          go_wp2
          go_roundw
          case rel => exact ⟨j + 1, by omega, by go_num, Lib.hid ⟨_, _, _, HX9.out, HO9.out⟩, HB9⟩
          case measure => simp [intOf]; omega
        | false =>
          rw [hp] at hE HG
          have HNX := Lib.hid (IM.row2_miss hE)
          clear hE hp hle
          go_wp2_with fail
          refine HG.out.mono ?_
          rintro e wz ⟨rfl, hq⟩
          have HO8 := Lib.hid (show ∃ ea en ec, wz.heap[w.heap.size + 1]? = some (.cells #[.slice na L.length nc, .slice ea en ec] 31 (0, 0)) ∧ OwnE2 w0.heap.size wz (.slice ea en ec) (IM.edgT L i ++ IM.row2 L i (j + 1)) by
            rw [HNX.out]
            obtain ⟨ea, en, ec, h1, h2⟩ := hoi.out
            exact ⟨ea, en, ec, below_block h1 hq, h2.below hq⟩)
          have hbx := Lib.hid (hbv.out.app (hq.mono hbv.out.2.2.2.1))
          clear HG hl1 hoi hbv hiy hyc hq
          go_wp2
          go_roundw
          case rel => exact ⟨j + 1, by omega, by go_num, HO8, hbx⟩
          case measure => simp [intOf]; omega
      · have hl1 : ((g.length : Int) == (f.length : Int) + 1) = false := beq_eq_false_iff_ne.2 (by omega)
        rw [decide_eq_false hle, Bool.false_and] at hE
        have HNX := Lib.hid (IM.row2_miss hE)
        have HO8 := Lib.hid (show ∃ ea en ec, wr.heap[w.heap.size + 1]? = some (.cells #[.slice na L.length nc, .slice ea en ec] 31 (0, 0)) ∧ OwnE2 w0.heap.size wr (.slice ea en ec) (IM.edgT L i ++ IM.row2 L i (j + 1)) by rw [HNX.out]; exact hoi.out)
        clear hE HG hle hoi
        go_wp2
        go_roundw
        case rel => exact ⟨j + 1, by omega, by go_num, HO8, hbv⟩
        case measure => simp [intOf]; omega


end Go.Proofs.YtkgkhofkhjgnbaaGreat
