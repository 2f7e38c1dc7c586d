/-
  The call of the reference's Initial: the summary of a genesis. No conditions beyond that the members read and are few.
-/
import Derived.Test.YtkaafbdhgekeeaaGreatMRWgh
namespace Go.Proofs.YtkaafbdhgekeeaaGreat
open Go.RowKit
open MM (Mem Ent Sm Tri)

theorem rini_ret {R : Ending → World → Prop} {a : Act} {w : World} {g : Nat} {x y z : Value} {k c f v a' n : Int} (hp : a.tmps.getD 2 undef = .pointer (some ⟨g, 0, none⟩)) (hg : w.heap[g]? = some (.cells (s9 x y z k c f v a' n) 37 (0, 0)))
    (hd : a.defers = []) (hR : R (.returned (sv x y z k c f v a' n)) w) : bodyPost Tryz.prog Tryz.f24 R .ret a w :=
  bodyPost_ret (results_cell_row (P := Tryz.prog) rfl a.tmps w g 37 _ _ _ hp hg Tryz.underlying37 rfl (by kernel_rfl)) hd hR

set_option maxRecDepth 100000 in
set_option maxHeartbeats 4000000 in
theorem rInitial (u : Value) (k c f : Int) (ms : List Mem) (w : World) (h : RdM w u ms) (hlen : ms.length ≤ 1000000) :
    Calls Tryz.prog 24 #[vw u k c f] w fun e w' => ∃ v, e = .returned v ∧ FrS w.heap.size w' v (MM.ini ms k c f) ∧ Below w.heap.size w w' := by
  obtain ⟨ad, cp, rfl, hcp, hl⟩ := h.shape
  obtain ⟨w3, hw3, hB, hsz, hG, hZ, hS⟩ := ini_boxes w (.slice ad ms.length cp) k c f
  have H := Lib.hid h
  have HW := Lib.hid hw3
  have HB := Lib.hid hB
  have HSZ := Lib.hid hsz
  have HLEN := Lib.hid hlen
  have HI0 := Lib.hid (show OwnI w3.heap.size w3 (.slice none 0 0) ((ms.map (·.1)).take 0) from OwnG.nil hlI _ _ _)
  have HE0 := Lib.hid (show OwnW w3.heap.size w3 (.slice none 0 0) ((ms.map fun m => ((m.1, m.2, 0, 0, 0) : Ent)).take 0) from OwnG.nil hlW _ _ _)
  have HG := Lib.hid hG
  have HZ := Lib.hid hZ
  have HS := Lib.hid hS
  clear h hw3 hB hsz hG hZ hS hlen
  go_enter Tryz.func24, Tryz.ntmps24
  go_wp2
  rw [HW.out]
  go_loopw [4] (fun i wr => ∃ (j : Nat) (vj vw' : Value), j ≤ ms.length ∧ i = .int .i64 j ∧ Hid (Below w.heap.size w wr) ∧ Hid (w3.heap.size ≤ wr.heap.size) ∧
    Hid (wr.heap[w.heap.size]? = some (.cells #[.slice ad ms.length cp, .int .i64 k, .int .i64 c, .int .i64 f] 26 (0, 0))) ∧
    Hid (wr.heap[w.heap.size + 1]? = some (.cells (s9 (.slice none 0 0) (.slice none 0 0) (.slice none 0 0) 0 0 0 0 0 0) 37 (0, 0))) ∧
    Hid (wr.heap[w.heap.size + 1 + 1]? = some (.cells (s9 vj (.slice none 0 0) vw' k c f 0 0 0) 37 (0, 0))) ∧
    Hid (OwnI w3.heap.size wr vj ((ms.map (·.1)).take j)) ∧ Hid (OwnW w3.heap.size wr vw' ((ms.map fun m => ((m.1, m.2, 0, 0, 0) : Ent)).take j))) (fun i _ => ms.length - (intOf i).toNat)
  case atStart => exact ⟨0, _, _, Nat.zero_le _, rfl, HB, Lib.hid (Nat.le_refl _), HG, HZ, HS, HI0, HE0⟩
  case round =>
    obtain ⟨j, vj, vw', hj, rfl, hb, hs3, hg, hz, hsb, hoi, hoe⟩ := hrel
    clear HI0 HE0 HB HW HG HZ HS
    obtain ⟨ai, li, ci, hvi⟩ : ∃ a l c, vj = .slice a l c := by obtain ⟨a, c, h, _⟩ := hoi.out.rd.shape; exact ⟨a, _, c, h⟩
    obtain ⟨ae, le, ce, hve⟩ : ∃ a l c, vw' = .slice a l c := by obtain ⟨a, c, h, _⟩ := hoe.out.rd.shape; exact ⟨a, _, c, h⟩
    subst hvi hve
    obtain ⟨⟨q0, q1, q2, q3⟩, _⟩ := row4_at hg.out
    by_cases hlt : j < ms.length
    · obtain ⟨⟨x, t⟩, hx⟩ : ∃ m, m = ms[j] := ⟨_, rfl⟩
      obtain ⟨b, o, hi, hbb, c0, c1⟩ := atM (H.out.below hb.out) j (x, t) (by rw [hx]; exact List.getElem?_eq_getElem hlt)
      simp only at c0 c1
      have hq : (j : Int) < (ms.length : Int) := by omega
      have HJX := Lib.hid (show ms[j]? = some (x, t) by rw [hx]; exact List.getElem?_eq_getElem hlt)
      have HTI := Lib.hid (show (ms.map (·.1)).take j ++ [x] = (ms.map (·.1)).take (j + 1) by rw [List.take_add_one, List.getElem?_map, List.getElem?_eq_getElem hlt, ← hx]; rfl)
      have HTE := Lib.hid (show (ms.map fun m => ((m.1, m.2, 0, 0, 0) : Ent)).take j ++ [((x, t, 0, 0, 0) : Ent)] = (ms.map fun m => ((m.1, m.2, 0, 0, 0) : Ent)).take (j + 1) by rw [List.take_add_one, List.getElem?_map, List.getElem?_eq_getElem hlt, ← hx]; rfl)
      have hle1 : ((ms.map (·.1)).take j).length ≤ 1073741824 := by rw [List.length_take, List.length_map]; have := HLEN.out; omega
      have HLE2 := Lib.hid (show ((ms.map fun m => ((m.1, m.2, 0, 0, 0) : Ent)).take j).length ≤ 1073741824 by rw [List.length_take, List.length_map]; have := HLEN.out; omega)
      obtain ⟨⟨z0, z1, z2, z3, z4, z5, z6, z7, z8⟩, _⟩ := row9_at hsb.out
      have HC := Lib.hid (And.intro c0 c1)
      have HOI := Lib.hid (show OwnI w3.heap.size wr.drew (.slice ai li ci) ((ms.map (·.1)).take j) from hoi.out)
      have hsz : w3.heap.size ≤ wr.drew.heap.size := hs3.out
      have HB1 := Lib.hid (show Below w.heap.size w wr.drew from hb.out.drew)
      have HG1 := Lib.hid (show wr.drew.heap[w.heap.size]? = some (.cells #[.slice ad ms.length cp, .int .i64 k, .int .i64 c, .int .i64 f] 26 (0, 0)) from hg.out)
      have HZ1 := Lib.hid (show wr.drew.heap[w.heap.size + 1]? = some (.cells (s9 (.slice none 0 0) (.slice none 0 0) (.slice none 0 0) 0 0 0 0 0 0) 37 (0, 0)) from hz.out)
      have HS1 := Lib.hid (show wr.drew.heap[w.heap.size + 1 + 1]? = some (.cells (s9 (.slice ai li ci) (.slice none 0 0) (.slice ae le ce) k c f 0 0 0) 37 (0, 0)) from hsb.out)
      have HE1 := Lib.hid (show OwnW w3.heap.size wr.drew (.slice ae le ce) ((ms.map fun m => ((m.1, m.2, 0, 0, 0) : Ent)).take j) from hoe.out)
      obtain ⟨⟨zz0, _⟩, _⟩ := row9_at (below_block hsb.out (below_fresh wr (.cells #[.int .i64 x] 3)))
      clear hx hb hs3 hg hz hsb hoi hoe
      go_upto_region 5 with fail
      go_cut [4] from 15 to 25 (fun p4 wx => p4 = .int .i64 j ∧ ∃ (a1 : Option Addr) (l1 c1' : Nat), Hid (wx.heap[w.heap.size + 1 + 1]? = some (.cells (s9 (.slice a1 l1 c1') (.slice none 0 0) (.slice ae le ce) k c f 0 0 0) 37 (0, 0))) ∧
        Hid (wx.heap[w.heap.size + 1]? = some (.cells (s9 (.slice none 0 0) (.slice none 0 0) (.slice none 0 0) 0 0 0 0 0 0) 37 (0, 0))) ∧ Hid (wx.heap[w.heap.size]? = some (.cells #[.slice ad ms.length cp, .int .i64 k, .int .i64 c, .int .i64 f] 26 (0, 0))) ∧
        Hid (OwnI w3.heap.size wx (.slice a1 l1 c1') ((ms.map (·.1)).take (j + 1))) ∧ Hid (OwnW w3.heap.size wx (.slice ae le ce) ((ms.map fun m => ((m.1, m.2, 0, 0, 0) : Ent)).take j)) ∧ Hid (Below w.heap.size w wx) ∧ Hid (w3.heap.size ≤ wx.heap.size))
      case first =>
       go_region_law (first
        | (refine step_appG1 intE x rfl _ _ rfl rfl HOI.out rfl hle1 hsz ?_; intro v1 w1 ho1 hb1 hk1; obtain ⟨a1, l1, c1', hv1⟩ : ∃ a l c, v1 = .slice a l c := (by obtain ⟨a, c, h, _⟩ := ho1.rd.shape; exact ⟨a, _, c, h⟩); subst hv1; have hs1 := blk_keep hb1 (by have := HSZ.out; omega) HS1.out; obtain ⟨⟨r0, r1, r2, r3, r4, r5, r6, r7, r8⟩, f0, f1, f2, f3, f4, f5, f6, f7, f8⟩ := row9_at hs1; have HS2 := Lib.hid hs1; clear hs1))
       all_goals
        have hs2 : (w1.setCell ⟨w.heap.size + 1 + 1, 0, none⟩ (.slice a1 l1 c1')).heap[w.heap.size + 1 + 1]? = some (.cells (s9 (.slice a1 l1 c1') (.slice none 0 0) (.slice ae le ce) k c f 0 0 0) 37 (0, 0)) := heap_setCell_same w1 _ 0 _ _ _ HS2.out
        have ho2 : Only (w.heap.size + 1 + 1) w1 (w1.setCell ⟨w.heap.size + 1 + 1, 0, none⟩ (.slice a1 l1 c1')) := Only.set 0 _
        have hb12 := HB1.out.trans (hb1.mono (show w.heap.size ≤ w3.heap.size by have := HSZ.out; omega))
        have HS3 := Lib.hid hs2
        have HZ3 := Lib.hid (ho2.at (blk_keep hb1 (by have := HSZ.out; omega) HZ1.out) (by omega))
        have HG3 := Lib.hid (ho2.at (blk_keep hb1 (by have := HSZ.out; omega) HG1.out) (by omega))
        have HOI3 := Lib.hid (ownG_only ho1 HS2.out (by decide) ho2)
        have HE3 := Lib.hid (ownG_only (ownG_keep HE1.out hk1 (by decide)) HS2.out (by decide) ho2)
        have HB3 := Lib.hid (hb12.trans (ho2.below (by omega) hb12.size))
        have HSZ3 := Lib.hid (Nat.le_trans (Nat.le_trans hsz hb1.size) ho2.size)
        clear hs2 ho2 hb12 ho1 hb1 hk1 r0 r1 r2 r3 r4 r5 r6 r7 r8 f0 f1 f2 f3 f4 f5 f6 f7 f8 z0 z1 z2 z3 z4 z5 z6 z7 z8 zz0 c0 c1 q0 q1 q2 q3 HS2 HOI HE1 HS1 HZ1 HG1 HB1 hle1 hsz
        generalize w1.setCell ⟨w.heap.size + 1 + 1, 0, none⟩ (.slice a1 l1 c1') = w2 at HS3 HZ3 HG3 HOI3 HE3 HB3 HSZ3 ⊢
        go_wp2
        go_meet
        exact ⟨rfl, a1, l1, c1', HS3, HZ3, HG3, Lib.hid (by rw [← HTI.out]; exact HOI3.out), HE3, HB3, HSZ3⟩
      case rest =>
        obtain ⟨rfl, a1, l1, c1', HS3, HZ3, HG3, HOI3, HE3, HB3, HSZ3⟩ := hcut
        clear hi hbb c0 c1
        obtain ⟨⟨z0, z1, z2, z3, z4, z5, z6, z7, z8⟩, _⟩ := row9_at HS3.out
        obtain ⟨⟨q0, q1, q2, q3⟩, _⟩ := row4_at HG3.out
        obtain ⟨b, o, hi, hbb, c0, c1⟩ := atM (H.out.below HB3.out) j (x, t) HJX.out
        simp only at c0 c1
        have HOE := Lib.hid (show OwnW w3.heap.size wc.drew (.slice ae le ce) ((ms.map fun m => ((m.1, m.2, 0, 0, 0) : Ent)).take j) from HE3.out)
        have hsz : w3.heap.size ≤ wc.drew.heap.size := HSZ3.out
        have hle2 := HLE2.out
        have HB4 := Lib.hid (show Below w.heap.size w wc.drew from HB3.out.drew)
        have HG4 := Lib.hid (show wc.drew.heap[w.heap.size]? = some (.cells #[.slice ad ms.length cp, .int .i64 k, .int .i64 c, .int .i64 f] 26 (0, 0)) from HG3.out)
        have HZ4 := Lib.hid (show wc.drew.heap[w.heap.size + 1]? = some (.cells (s9 (.slice none 0 0) (.slice none 0 0) (.slice none 0 0) 0 0 0 0 0 0) 37 (0, 0)) from HZ3.out)
        have HS4 := Lib.hid (show wc.drew.heap[w.heap.size + 1 + 1]? = some (.cells (s9 (.slice a1 l1 c1') (.slice none 0 0) (.slice ae le ce) k c f 0 0 0) 37 (0, 0)) from HS3.out)
        have HI4 := Lib.hid (show OwnI w3.heap.size wc.drew (.slice a1 l1 c1') ((ms.map (·.1)).take (j + 1)) from HOI3.out)
        obtain ⟨⟨_, _, zz2, _⟩, _⟩ := row9_at (below_block HS3.out (below_fresh wc (.cells #[.int .i64 x, .int .i64 t, .int .i64 0, .int .i64 0, .int .i64 0] 62)))
        clear HS3 HZ3 HG3 HOI3 HE3 HB3 HSZ3
        go_upto_region 6 with fail
        go_region_law (first
          | (refine step_appG1 wgtE (x, t, 0, 0, 0) rfl _ _ rfl rfl HOE.out rfl hle2 hsz ?_; intro v1 w1 ho1 hb1 hk1; obtain ⟨a2, l2, c2', hv2⟩ : ∃ a l c, v1 = .slice a l c := (by obtain ⟨a, c, h, _⟩ := ho1.rd.shape; exact ⟨a, _, c, h⟩); subst hv2; have hs1 := blk_keep hb1 (by have := HSZ.out; omega) HS4.out; obtain ⟨⟨r0, r1, r2, r3, r4, r5, r6, r7, r8⟩, f0, f1, f2, f3, f4, f5, f6, f7, f8⟩ := row9_at hs1; have HS5 := Lib.hid hs1; clear hs1))
        all_goals
          have hs2 : (w1.setCell ⟨w.heap.size + 1 + 1, 2, none⟩ (.slice a2 l2 c2')).heap[w.heap.size + 1 + 1]? = some (.cells (s9 (.slice a1 l1 c1') (.slice none 0 0) (.slice a2 l2 c2') k c f 0 0 0) 37 (0, 0)) := heap_setCell_same w1 _ 2 _ _ _ HS5.out
          have ho2 : Only (w.heap.size + 1 + 1) w1 (w1.setCell ⟨w.heap.size + 1 + 1, 2, none⟩ (.slice a2 l2 c2')) := Only.set 2 _
          have hb12 := HB4.out.trans (hb1.mono (show w.heap.size ≤ w3.heap.size by have := HSZ.out; omega))
          have HS6 := Lib.hid hs2
          have HZ6 := Lib.hid (ho2.at (blk_keep hb1 (by have := HSZ.out; omega) HZ4.out) (by omega))
          have HG6 := Lib.hid (ho2.at (blk_keep hb1 (by have := HSZ.out; omega) HG4.out) (by omega))
          have HE6 := Lib.hid (ownG_only ho1 HS5.out (by decide) ho2)
          have HI6 := Lib.hid (ownG_only (ownG_keep HI4.out hk1 (by decide)) HS5.out (by decide) ho2)
          have HB6 := Lib.hid (hb12.trans (ho2.below (by omega) hb12.size))
          have HSZ6 := Lib.hid (Nat.le_trans (Nat.le_trans hsz hb1.size) ho2.size)
          clear hs2 ho2 hb12 ho1 hb1 hk1 r0 r1 r2 r3 r4 r5 r6 r7 r8 f0 f1 f2 f3 f4 f5 f6 f7 f8 z0 z1 z2 z3 z4 z5 z6 z7 z8 zz2 c0 c1 q0 q1 q2 q3 HS5 HOE HI4 HS4 HZ4 HG4 HB4 hle2 hsz
          generalize w1.setCell ⟨w.heap.size + 1 + 1, 2, none⟩ (.slice a2 l2 c2') = w2 at HS6 HZ6 HG6 HI6 HE6 HB6 HSZ6 ⊢
          go_wp2
          go_roundw
          case rel => exact ⟨j + 1, _, _, by omega, by go_num, HB6, HSZ6, HG6, HZ6, HS6, HI6, Lib.hid (by rw [← HTE.out]; exact HE6.out)⟩
          case measure => simp [intOf]; omega
    · have hq : ¬ ((j : Int) < (ms.length : Int)) := by omega
      obtain ⟨⟨z0, z1, z2, z3, z4, z5, z6, z7, z8⟩, f0, f1, f2, f3, f4, f5, f6, f7, f8⟩ := row9_at hsb.out
      obtain ⟨⟨y0, y1, y2, y3, y4, y5, y6, y7, y8⟩, g0, g1, g2, g3, g4, g5, g6, g7, g8⟩ := row9_at hz.out
      go_wp2
      have hp := row9_put hz.out (.slice ai li ci) (.slice none 0 0) (.slice ae le ce) (.int .i64 k) (.int .i64 c) (.int .i64 f) (.int .i64 0) (.int .i64 0) (.int .i64 0) w.heap.size (by omega)
      have hon := onlyc9 (w := wr) (g := w.heap.size + 1) (.slice ai li ci) (.slice none 0 0) (.slice ae le ce) (.int .i64 k) (.int .i64 c) (.int .i64 f) (.int .i64 0) (.int .i64 0) (.int .i64 0)
      refine rini_ret rfl hp.1 rfl ⟨_, rfl, fun w'' hf => ⟨_, _, _, rfl, ?_, RdG.nil hlI _, ?_⟩, hb.out.trans hp.2⟩
      · have := ((ownG_only hoi.out hz.out (by decide) hon).fr (hf.mono (by have := HSZ.out; omega))).rd
        rw [List.take_of_length_le (by rw [List.length_map]; omega)] at this
        exact this
      · have := ((ownG_only hoe.out hz.out (by decide) hon).fr (hf.mono (by have := HSZ.out; omega))).rd
        rw [List.take_of_length_le (by rw [List.length_map]; omega)] at this
        exact this

end Go.Proofs.YtkaafbdhgekeeaaGreat
