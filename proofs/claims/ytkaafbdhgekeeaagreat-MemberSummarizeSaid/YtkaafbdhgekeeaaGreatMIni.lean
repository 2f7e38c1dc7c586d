/-
  The calls of Initial, the program's and the reference's: each returns the summary of a genesis. No conditions beyond that the members read and are few.
-/
import Derived.Test.YtkaafbdhgekeeaaGreatMEv
namespace Go.Proofs.YtkaafbdhgekeeaaGreat
open Go.RowKit
open MM (Mem Ent Sm Tri)

/-- What lies in blocks from B on stays. -/
structure Fr (B : Nat) (w w' : World) : Prop where
  size : w.heap.size ≤ w'.heap.size
  blk : ∀ k, B ≤ k → k < w.heap.size → w'.heap[k]? = w.heap[k]?
theorem Fr.refl (B : Nat) (w : World) : Fr B w w := ⟨Nat.le_refl _, fun _ _ _ => rfl⟩
theorem Fr.trans {B : Nat} {a b c : World} (h : Fr B a b) (k : Fr B b c) : Fr B a c := ⟨Nat.le_trans h.size k.size, fun i h1 h2 => (k.blk i h1 (Nat.lt_of_lt_of_le h2 h.size)).trans (h.blk i h1 h2)⟩
theorem Fr.mono {B B' : Nat} {w w' : World} (h : Fr B w w') (hb : B ≤ B') : Fr B' w w' := ⟨h.size, fun i h1 h2 => h.blk i (Nat.le_trans hb h1) h2⟩
theorem Fr.of {B : Nat} {w w' : World} (h : Below w.heap.size w w') : Fr B w w' := ⟨h.size, fun i _ h2 => h.block i h2⟩
theorem Fr.only {B g : Nat} {w w' : World} (h : Only g w w') (hg : g < B) : Fr B w w' := ⟨h.size, fun i h1 h2 => h.block i h2 (by omega)⟩
theorem OwnG.fr {α : Type} {enc : α → List Value} {e : TypeId} {size base : Nat} {w w' : World} {v : Value} {xs : List α} (h : OwnG enc e size base w v xs) (hf : Fr base w w') : OwnG enc e size base w' v xs := by
  refine ⟨⟨h.1.1, ?_⟩, h.2⟩
  rcases h.1.2 with h6 | ⟨gg, cap, cur, hv, hgg, hh, r⟩
  · exact .inl h6
  · exact .inr ⟨gg, cap, cur, hv, hgg, (hf.blk gg hgg (Array.getElem?_eq_some_iff.1 hh).1).trans hh, r⟩
/-- The value reads as a summary, and goes on to while the blocks from B on stay. -/
def FrS (B : Nat) (w : World) (v : Value) (s : Sm) : Prop := ∀ w', Fr B w w' → RdS w' v s
theorem FrS.rd {B : Nat} {w : World} {v : Value} {s : Sm} (h : FrS B w v s) : RdS w v s := h w (Fr.refl _ _)
theorem FrS.fr {B : Nat} {w w' : World} {v : Value} {s : Sm} (h : FrS B w v s) (hf : Fr B w w') : FrS B w' v s := fun w'' h2 => h w'' (hf.trans h2)
theorem FrS.mono {B B' : Nat} {w : World} {v : Value} {s : Sm} (h : FrS B' w v s) (hb : B ≤ B') : FrS B w v s := fun w'' h2 => h w'' (h2.mono hb)
theorem blk_keep {B g : Nat} {w w' : World} {o : Obj} (hb : Below B w w') (hg : g < B) (h : w.heap[g]? = some o) : w'.heap[g]? = some o := (hb.block g hg).trans h
theorem onlyc9 {w : World} {g : Nat} (b0 b1 b2 b3 b4 b5 b6 b7 b8 : Value) : Only g w (((((((((w.setCell ⟨g, 0, none⟩ b0).setCell ⟨g, 1, none⟩ b1).setCell ⟨g, 2, none⟩ b2).setCell ⟨g, 3, none⟩ b3).setCell ⟨g, 4, none⟩ b4).setCell ⟨g, 5, none⟩ b5).setCell ⟨g, 6, none⟩ b6).setCell ⟨g, 7, none⟩ b7).setCell ⟨g, 8, none⟩ b8) := (((((((((Only.set 0 b0).trans (Only.set 1 b1)).trans (Only.set 2 b2)).trans (Only.set 3 b3)).trans (Only.set 4 b4)).trans (Only.set 5 b5)).trans (Only.set 6 b6)).trans (Only.set 7 b7)).trans (Only.set 8 b8))
theorem onlyc5 {w : World} {g : Nat} (b0 b1 b2 b3 b4 : Value) : Only g w (((((w.setCell ⟨g, 0, none⟩ b0).setCell ⟨g, 1, none⟩ b1).setCell ⟨g, 2, none⟩ b2).setCell ⟨g, 3, none⟩ b3).setCell ⟨g, 4, none⟩ b4) := (((((Only.set 0 b0).trans (Only.set 1 b1)).trans (Only.set 2 b2)).trans (Only.set 3 b3)).trans (Only.set 4 b4))
theorem onlyc4 {w : World} {g : Nat} (b0 b1 b2 b3 : Value) : Only g w ((((w.setCell ⟨g, 0, none⟩ b0).setCell ⟨g, 1, none⟩ b1).setCell ⟨g, 2, none⟩ b2).setCell ⟨g, 3, none⟩ b3) := ((((Only.set 0 b0).trans (Only.set 1 b1)).trans (Only.set 2 b2)).trans (Only.set 3 b3))
theorem onlyc3 {w : World} {g : Nat} (b0 b1 b2 : Value) : Only g w (((w.setCell ⟨g, 0, none⟩ b0).setCell ⟨g, 1, none⟩ b1).setCell ⟨g, 2, none⟩ b2) := (((Only.set 0 b0).trans (Only.set 1 b1)).trans (Only.set 2 b2))
/-- A summary returned out of a block. -/
theorem sum_ret_cells {x y z : Value} {k c f v a n : Int} : (#[x, y, z, .int .i64 k, .int .i64 c, .int .i64 f, .int .i64 v, .int .i64 a, .int .i64 n] : Array Value).size = 9 := rfl
abbrev s9 (x y z : Value) (k c f v a n : Int) : Array Value := #[x, y, z, .int .i64 k, .int .i64 c, .int .i64 f, .int .i64 v, .int .i64 a, .int .i64 n]
theorem ini_ret {R : Ending → World → Prop} {a : Act} {w : World} {g : Nat} {x y z : Value} {k c f v a' n : Int} (hp : a.tmps.getD 2 undef = .pointer (some ⟨g, 0, none⟩)) (hg : w.heap[g]? = some (.cells (s9 x y z k c f v a' n) 37 (0, 0)))
    (hd : a.defers = []) (hR : R (.returned (sv x y z k c f v a' n)) w) : bodyPost Tryz.prog Tryz.f19 R .ret a w :=
  bodyPost_ret (results_cell_row (P := Tryz.prog) rfl a.tmps w g 37 _ _ _ hp hg Tryz.underlying37 rfl (by kernel_rfl)) hd hR
/-- The boxes of Initial: the genesis, the result, the summary. -/
theorem ini_boxes (w : World) (u : Value) (k c f : Int) :
    ∃ w3, ((w.alloc (.cells #[u, .int .i64 k, .int .i64 c, .int .i64 f] 26)).alloc (.cells (s9 (.slice none 0 0) (.slice none 0 0) (.slice none 0 0) 0 0 0 0 0 0) 37)).alloc (.cells (s9 (.slice none 0 0) (.slice none 0 0) (.slice none 0 0) k c f 0 0 0) 37) = w3 ∧ Below w.heap.size w w3 ∧ w3.heap.size = w.heap.size + 3 ∧
      w3.heap[w.heap.size]? = some (.cells #[u, .int .i64 k, .int .i64 c, .int .i64 f] 26 (0, 0)) ∧
      w3.heap[w.heap.size + 1]? = some (.cells (s9 (.slice none 0 0) (.slice none 0 0) (.slice none 0 0) 0 0 0 0 0 0) 37 (0, 0)) ∧
      w3.heap[w.heap.size + 1 + 1]? = some (.cells (s9 (.slice none 0 0) (.slice none 0 0) (.slice none 0 0) k c f 0 0 0) 37 (0, 0)) := by
  have h1 := heap_alloc_new w (.cells #[u, .int .i64 k, .int .i64 c, .int .i64 f] 26)
  have b1 := below_fresh w (.cells #[u, .int .i64 k, .int .i64 c, .int .i64 f] 26)
  have z1 := World.size_alloc w (.cells #[u, .int .i64 k, .int .i64 c, .int .i64 f] 26)
  generalize w.alloc (.cells #[u, .int .i64 k, .int .i64 c, .int .i64 f] 26) = w1 at *
  have h2 := heap_alloc_new w1 (.cells (s9 (.slice none 0 0) (.slice none 0 0) (.slice none 0 0) 0 0 0 0 0 0) 37)
  have b2 := below_fresh w1 (.cells (s9 (.slice none 0 0) (.slice none 0 0) (.slice none 0 0) 0 0 0 0 0 0) 37)
  have z2 := World.size_alloc w1 (.cells (s9 (.slice none 0 0) (.slice none 0 0) (.slice none 0 0) 0 0 0 0 0 0) 37)
  generalize w1.alloc (.cells (s9 (.slice none 0 0) (.slice none 0 0) (.slice none 0 0) 0 0 0 0 0 0) 37) = w2 at *
  have h3 := heap_alloc_new w2 (.cells (s9 (.slice none 0 0) (.slice none 0 0) (.slice none 0 0) k c f 0 0 0) 37)
  have b3 := below_fresh w2 (.cells (s9 (.slice none 0 0) (.slice none 0 0) (.slice none 0 0) k c f 0 0 0) 37)
  have z3 := World.size_alloc w2 (.cells (s9 (.slice none 0 0) (.slice none 0 0) (.slice none 0 0) k c f 0 0 0) 37)
  refine ⟨_, rfl, bnext b1 (bnext b2 b3), by omega, below_block (below_block h1 b2) b3, ?_, ?_⟩
  · rw [← z1]; exact below_block h2 b3
  · rw [← z1, ← z2]; exact h3

set_option maxRecDepth 100000 in
set_option maxHeartbeats 4000000 in
theorem cInitial (u : Value) (k c f : Int) (ms : List Mem) (w : World) (h : RdM w u ms) (hlen : ms.length ≤ 1000000) :
    Calls Tryz.prog 19 #[vw u k c f] w fun e w' => ∃ v, e = .returned v ∧ FrS w.heap.size w' v (MM.ini ms k c f) ∧ Below w.heap.size w w' := by
  obtain ⟨ad, cp, rfl, hcp, hl⟩ := h.shape
  obtain ⟨w3, hw3, hB, hsz, hG, hZ, hS⟩ := ini_boxes w (.slice ad ms.length cp) k c f
  have H := Lib.hid h
  have HW := Lib.hid hw3
  have HB := Lib.hid hB
  have HSZ := Lib.hid hsz
  have HLEN := Lib.hid hlen
  have HI0 := Lib.hid (show OwnI w3.heap.size w3 (.slice none 0 0) ((ms.map (·.1)).take 0) from OwnG.nil hlI _ _ _)
  have HE0 := Lib.hid (show OwnW w3.heap.size w3 (.slice none 0 0) ((ms.map fun m => ((m.1, m.2, 0, 0, 0) : Ent)).take 0) from OwnG.nil hlW _ _ _)
  have HG := Lib.hid hG
  have HZ := Lib.hid hZ
  have HS := Lib.hid hS
  clear h hw3 hB hsz hG hZ hS hlen
  go_enter Tryz.func19, Tryz.ntmps19
  go_wp2
  rw [HW.out]
  go_loopw [12] (fun i wr => ∃ (j : Nat) (vj vw' : Value), j ≤ ms.length ∧ i = .int .i64 j ∧ Hid (Below w.heap.size w wr) ∧ Hid (w3.heap.size ≤ wr.heap.size) ∧
    Hid (wr.heap[w.heap.size + 1]? = some (.cells (s9 (.slice none 0 0) (.slice none 0 0) (.slice none 0 0) 0 0 0 0 0 0) 37 (0, 0))) ∧
    Hid (wr.heap[w.heap.size + 1 + 1]? = some (.cells (s9 vj (.slice none 0 0) vw' k c f 0 0 0) 37 (0, 0))) ∧
    Hid (OwnI w3.heap.size wr vj ((ms.map (·.1)).take j)) ∧ Hid (OwnW w3.heap.size wr vw' ((ms.map fun m => ((m.1, m.2, 0, 0, 0) : Ent)).take j))) (fun i _ => ms.length - (intOf i).toNat)
  case atStart => exact ⟨0, _, _, Nat.zero_le _, rfl, HB, Lib.hid (Nat.le_refl _), HZ, HS, HI0, HE0⟩
  case round =>
    obtain ⟨j, vj, vw', hj, rfl, hb, hs3, hz, hsb, hoi, hoe⟩ := hrel
    by_cases hlt : j < ms.length
    · obtain ⟨⟨x, t⟩, hx⟩ : ∃ m, m = ms[j] := ⟨_, rfl⟩
      obtain ⟨b, o, hi, hbb, c0, c1⟩ := atM (H.out.below hb.out) j (x, t) (by rw [hx]; exact List.getElem?_eq_getElem hlt)
      simp only at c0 c1
      have hq : (j : Int) < (ms.length : Int) := by omega
      have HTI := Lib.hid (show (ms.map (·.1)).take j ++ [x] = (ms.map (·.1)).take (j + 1) by rw [List.take_add_one, List.getElem?_map, List.getElem?_eq_getElem hlt, ← hx]; rfl)
      have HTE := Lib.hid (show (ms.map fun m => ((m.1, m.2, 0, 0, 0) : Ent)).take j ++ [((x, t, 0, 0, 0) : Ent)] = (ms.map fun m => ((m.1, m.2, 0, 0, 0) : Ent)).take (j + 1) by rw [List.take_add_one, List.getElem?_map, List.getElem?_eq_getElem hlt, ← hx]; rfl)
      have hle1 : ((ms.map (·.1)).take j).length ≤ 1000000 := by rw [List.length_take, List.length_map]; have := HLEN.out; omega
      have hle2 : ((ms.map fun m => ((m.1, m.2, 0, 0, 0) : Ent)).take j).length ≤ 1000000 := by rw [List.length_take, List.length_map]; have := HLEN.out; omega
      -- the member's box
      have hfr := below_fresh wr (.cells #[.int .i64 x, .int .i64 t] 48)
      have hsn := World.size_alloc wr (.cells #[.int .i64 x, .int .i64 t] 48)
      have x0 : (wr.alloc (.cells #[.int .i64 x, .int .i64 t] 48)).cell? ⟨wr.heap.size, 0, none⟩ = some (.int .i64 x) := by simp [World.cell?_alloc_new]
      have x1 : (wr.alloc (.cells #[.int .i64 x, .int .i64 t] 48)).cell? ⟨wr.heap.size, 1, none⟩ = some (.int .i64 t) := by simp [World.cell?_alloc_new]
      have hxb := heap_alloc_new wr (.cells #[.int .i64 x, .int .i64 t] 48)
      generalize hwn : wr.alloc (.cells #[.int .i64 x, .int .i64 t] 48) = wn at hfr hsn x0 x1 hxb
      have HS1 := Lib.hid (below_block hsb.out hfr)
      have HZ1 := Lib.hid (below_block hz.out hfr)
      have HO1 := Lib.hid (hoi.out.below hfr)
      have HE1 := Lib.hid (hoe.out.below hfr)
      have HB1 := Lib.hid (bnext hb.out hfr)
      have HX1 := Lib.hid hxb
      have hsz1 : w3.heap.size ≤ wn.heap.size := by have := hs3.out; omega
      obtain ⟨ai, li, ci, hvi⟩ : ∃ a l c, vj = .slice a l c := by obtain ⟨a, c, h, _⟩ := hoi.out.rd.shape; exact ⟨a, _, c, h⟩
      obtain ⟨ae, le, ce, hve⟩ : ∃ a l c, vw' = .slice a l c := by obtain ⟨a, c, h, _⟩ := hoe.out.rd.shape; exact ⟨a, _, c, h⟩
      subst hvi hve
      obtain ⟨⟨z0, z1, z2, z3, z4, z5, z6, z7, z8⟩, f0, f1, f2, f3, f4, f5, f6, f7, f8⟩ := row9_at HS1.out
      have HSN := Lib.hid hsn
      have HXS := Lib.hid (show w.heap.size + 1 + 1 < wr.heap.size by have := hs3.out; have := HSZ.out; omega)
      clear hfr hsn hxb hb hs3 hz hsb hoi hoe HI0 HE0 HB HW HG HZ HS hx
      go_wp2_with (at_builtin; refine wp_appG1 intE x rfl _ _ rfl rfl HO1.out rfl (by omega) hsz1 ?_)
      intro v1 w1 ho hbl hkx _
      obtain ⟨a1, l1, c1', hv1⟩ : ∃ a l c, v1 = .slice a l c := by obtain ⟨a, c, h, _⟩ := ho.rd.shape; exact ⟨a, _, c, h⟩
      subst hv1
      have hz1 := blk_keep hbl (by have := HSZ.out; omega) HZ1.out
      have hs1 := blk_keep hbl (by have := HSZ.out; omega) HS1.out
      have he1 := ownG_keep HE1.out hkx (by decide)
      have hx1 := hkx.at HX1.out (by decide)
      have hb1 := HB1.out.trans (hbl.mono (by have := HSZ.out; omega))
      have hg1 := hbl.size
      -- the store of the new list
      obtain ⟨⟨y0, y1, y2, y3, y4, y5, y6, y7, y8⟩, g0, g1, g2, g3, g4, g5, g6, g7, g8⟩ := row9_at hs1
      have hs2 : (w1.setCell ⟨w.heap.size + 1 + 1, 0, none⟩ (.slice a1 l1 c1')).heap[w.heap.size + 1 + 1]? = some (.cells (s9 (.slice a1 l1 c1') (.slice none 0 0) (.slice ae le ce) k c f 0 0 0) 37 (0, 0)) := heap_setCell_same w1 _ 0 _ _ _ hs1
      have ho2 : Only (w.heap.size + 1 + 1) w1 (w1.setCell ⟨w.heap.size + 1 + 1, 0, none⟩ (.slice a1 l1 c1')) := Only.set 0 _
      have HS2 := Lib.hid hs2
      have HZ2 := Lib.hid (ho2.at hz1 (by omega))
      have HX2 := Lib.hid (ho2.at hx1 (by have := HXS.out; omega))
      have HO2 := Lib.hid (ownG_only ho hs1 (by decide) ho2)
      have HE2 := Lib.hid (ownG_only he1 hs1 (by decide) ho2)
      have HB2 := Lib.hid (hb1.trans (ho2.below (by omega) hb1.size))
      have HSZ2 := Lib.hid (Nat.le_trans (Nat.le_trans hsz1 hbl.size) ho2.size)
      have y20 : w1.cell? ⟨wr.heap.size, 0, none⟩ = some (.int .i64 x) := by simp [World.cell?, hx1]
      have y21 : w1.cell? ⟨wr.heap.size, 1, none⟩ = some (.int .i64 t) := by simp [World.cell?, hx1]
      have hne : ¬ wr.heap.size = w.heap.size + 1 + 1 := by have := HXS.out; omega
      clear x0 x1 z0 z1 z2 z3 z4 z5 z6 z7 z8 f0 f1 f2 f3 f4 f5 f6 f7 f8 hs2 ho2 ho hbl hkx hz1 he1 hx1 hb1 hg1 hs1 HS1 HZ1 HO1 HE1 HB1 HX1
      go_wp2_with (at_builtin; refine wp_appG1' wgtE (x, t, 0, 0, 0) w1.heap.size (World.size_setCell ..) rfl _ _ rfl rfl HE2.out rfl (by omega) HSZ2.out ?_)
      intro v3 w3' ho3 hbl3 hkx3
      obtain ⟨a3, l3, c3, hv3⟩ : ∃ a l c, v3 = .slice a l c := by obtain ⟨a, c, h, _⟩ := ho3.rd.shape; exact ⟨a, _, c, h⟩
      subst hv3
      have hs3 := blk_keep hbl3 (by have := HSZ.out; omega) HS2.out
      have hz3 := blk_keep hbl3 (by have := HSZ.out; omega) HZ2.out
      have hi3 := ownG_keep HO2.out hkx3 (by decide)
      have hb3 := HB2.out.trans (hbl3.mono (by have := HSZ.out; omega))
      obtain ⟨⟨y30, y31, y32, y33, y34, y35, y36, y37, y38⟩, g30, g31, g32, g33, g34, g35, g36, g37, g38⟩ := row9_at hs3
      have hs4 : (w3'.setCell ⟨w.heap.size + 1 + 1, 2, none⟩ (.slice a3 l3 c3)).heap[w.heap.size + 1 + 1]? = some (.cells (s9 (.slice a1 l1 c1') (.slice none 0 0) (.slice a3 l3 c3) k c f 0 0 0) 37 (0, 0)) := heap_setCell_same w3' _ 2 _ _ _ hs3
      have ho4 : Only (w.heap.size + 1 + 1) w3' (w3'.setCell ⟨w.heap.size + 1 + 1, 2, none⟩ (.slice a3 l3 c3)) := Only.set 2 _
      have HS4 := Lib.hid hs4
      have HZ4 := Lib.hid (ho4.at hz3 (by omega))
      have HO4 := Lib.hid (ownG_only hi3 hs3 (by decide) ho4)
      have HE4 := Lib.hid (ownG_only ho3 hs3 (by decide) ho4)
      have HB4 := Lib.hid (hb3.trans (ho4.below (by omega) hb3.size))
      have HSZ4 := Lib.hid (Nat.le_trans (Nat.le_trans HSZ2.out hbl3.size) ho4.size)
      clear hs4 ho4 ho3 hbl3 hkx3 hs3 hz3 hi3 hb3 y0 y1 y2 y3 y4 y5 y6 y7 y8 g0 g1 g2 g3 g4 g5 g6 g7 g8 y20 y21 hne HS2 HZ2 HX2 HO2 HE2 HB2 HSZ2
      go_wp2
      go_roundw
      case rel => exact ⟨j + 1, _, _, by omega, by go_num, HB4, HSZ4, HZ4, HS4, by rw [← HTI.out]; exact HO4, by rw [← HTE.out]; exact HE4⟩
      case measure => simp [intOf]; omega
    · have hq : ¬ ((j : Int) < (ms.length : Int)) := by omega
      obtain ⟨ai, li, ci, hvi⟩ : ∃ a l c, vj = .slice a l c := by obtain ⟨a, c, h, _⟩ := hoi.out.rd.shape; exact ⟨a, _, c, h⟩
      obtain ⟨ae, le, ce, hve⟩ : ∃ a l c, vw' = .slice a l c := by obtain ⟨a, c, h, _⟩ := hoe.out.rd.shape; exact ⟨a, _, c, h⟩
      subst hvi hve
      obtain ⟨⟨z0, z1, z2, z3, z4, z5, z6, z7, z8⟩, f0, f1, f2, f3, f4, f5, f6, f7, f8⟩ := row9_at hsb.out
      obtain ⟨⟨y0, y1, y2, y3, y4, y5, y6, y7, y8⟩, g0, g1, g2, g3, g4, g5, g6, g7, g8⟩ := row9_at hz.out
      go_wp2
      have hp := row9_put hz.out (.slice ai li ci) (.slice none 0 0) (.slice ae le ce) (.int .i64 k) (.int .i64 c) (.int .i64 f) (.int .i64 0) (.int .i64 0) (.int .i64 0) w.heap.size (by omega)
      have hon := onlyc9 (w := wr) (g := w.heap.size + 1) (.slice ai li ci) (.slice none 0 0) (.slice ae le ce) (.int .i64 k) (.int .i64 c) (.int .i64 f) (.int .i64 0) (.int .i64 0) (.int .i64 0)
      refine ini_ret rfl hp.1 rfl ⟨_, rfl, fun w'' hf => ⟨_, _, _, rfl, ?_, RdG.nil hlI _, ?_⟩, hb.out.trans hp.2⟩
      · have := ((ownG_only hoi.out hz.out (by decide) hon).fr (hf.mono (by have := HSZ.out; omega))).rd
        rw [List.take_of_length_le (by rw [List.length_map]; omega)] at this
        exact this
      · have := ((ownG_only hoe.out hz.out (by decide) hon).fr (hf.mono (by have := HSZ.out; omega))).rd
        rw [List.take_of_length_le (by rw [List.length_map]; omega)] at this
        exact this

end Go.Proofs.YtkaafbdhgekeeaaGreat
