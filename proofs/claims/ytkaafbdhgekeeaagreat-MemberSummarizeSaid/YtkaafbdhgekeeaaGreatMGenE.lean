/-
  The call of the program's AppendGenesis: the bytes, and behind them the genesis's encoding. Conditions: the bytes and the members read; the numbers are small, the members few.
-/
import Derived.Test.YtkaafbdhgekeeaaGreatMIni
import Derived.Test.YtkaafbdhgekeeaaGreatValApp
namespace Go.Proofs.YtkaafbdhgekeeaaGreat
open Go.RowKit
open MM (Mem Ent Sm Tri)

/-- The numbers of a genesis. -/
def gnum (ms : List Mem) (k c f : Int) : List Int := ((ms.length : Int) :: ms.flatMap fun m => [m.1, m.2]) ++ [k, c, f]
theorem flat_len (ms : List Mem) : (ms.flatMap fun m => [m.1, m.2]).length = 2 * ms.length := by
  induction ms with
  | nil => rfl
  | cons m ms ih => rw [List.flatMap_cons, List.length_append, ih]; simp; omega
theorem flat_take {ms : List Mem} {j : Nat} {x t : Int} (h : ms[j]? = some (x, t)) : (ms.take (j + 1)).flatMap (fun m => [m.1, m.2]) = (ms.take j).flatMap (fun m => [m.1, m.2]) ++ [x, t] := by
  rw [List.take_add_one, h, List.flatMap_append]; rfl

set_option maxRecDepth 100000 in
set_option maxHeartbeats 4000000 in
theorem cAppendGenesis (v u : Value) (bs : List Int) (ms : List Mem) (k c f : Int) (w : World) (h : Rd w v bs) (hu : RdM w u ms) (hs : ∀ x ∈ gnum ms k c f, JM.small x) (hl : ms.length ≤ 400) (hlen : bs.length ≤ 1099511627776) :
    Calls Tryz.prog 15 #[v, vw u k c f] w fun e w' => ∃ v', e = .returned v' ∧ Own w.heap.size w' v' (bs ++ JM.encN (gnum ms k c f)) ∧ Below w.heap.size w w' := by
  obtain ⟨ad, cp, rfl, hcp, hlc⟩ := hu.shape
  have hB := below_fresh w (.cells #[.slice ad ms.length cp, .int .i64 k, .int .i64 c, .int .i64 f] 26)
  have hG := heap_alloc_new w (.cells #[.slice ad ms.length cp, .int .i64 k, .int .i64 c, .int .i64 f] 26)
  generalize hw1 : w.alloc (.cells #[.slice ad ms.length cp, .int .i64 k, .int .i64 c, .int .i64 f] 26) = w1 at hB hG
  have hn0 := ownG_fresh hlI 3 w1 [(ms.length : Int)] (by unfold maxLen; simp)
  have hb0 := below_fresh w1 (.cells #[.int .i64 (ms.length : Int)] 3)
  obtain ⟨w2, hw2⟩ : ∃ w2, w1.alloc (.cells #[.int .i64 (ms.length : Int)] 3) = w2 := ⟨_, rfl⟩
  have hn0' : OwnI w1.heap.size w2 (.slice (some ⟨w1.heap.size, 0, none⟩) 1 1) ((ms.length : Int) :: (ms.take 0).flatMap fun m => [m.1, m.2]) := by rw [← hw2]; exact hn0
  rw [hw2] at hb0
  have HW := Lib.hid hw1
  have HW2 := Lib.hid hw2
  have hs1' : w1.heap.size = w.heap.size + 1 := by rw [← hw1]; exact World.size_alloc _ _
  have hn00 : OwnI w.heap.size w2 (.slice (some ⟨w1.heap.size, 0, none⟩) 1 1) ((ms.length : Int) :: (ms.take 0).flatMap fun m => [m.1, m.2]) := hn0'.mono (by omega)
  rw [hs1'] at hn00
  have HN0 := Lib.hid hn00
  clear hn00 hs1'
  have HB := Lib.hid hB
  have HG := Lib.hid hG
  have HB2 := Lib.hid (bnext hB hb0)
  have HG2 := Lib.hid (below_block hG hb0)
  have HS1 := Lib.hid hb0.size
  have HU := Lib.hid hu
  have HV := Lib.hid h
  have HL := Lib.hid hl
  have HAP := Lib.hid (fun (z : Value) (w' : World) (hb : Below w.heap.size w w') (hz : RdI w' z (gnum ms k c f)) => cAppendNumbers v z bs (gnum ms k c f) w' (h.below hb) hz hs (by unfold gnum; rw [List.length_append, List.length_cons, flat_len]; simp; omega) hlen)
  have hs1 : w.heap.size + 1 = w1.heap.size := by rw [← hw1]; exact (World.size_alloc _ _).symm
  have HSW := Lib.hid hs1
  obtain ⟨⟨g0, g1, g2, g3⟩, _⟩ := row4_at hG
  clear h hu hs hl hw1 hw2 hn0 hn0' hB hG hb0 hs1
  go_enter Tryz.func15, Tryz.ntmps15
  go_wp2
  rw [HW.out, HW2.out]
  go_loopw [5, 15] (fun nv i wr => ∃ j : Nat, j ≤ ms.length ∧ i = .int .i64 j ∧ Hid (Below w.heap.size w wr) ∧ Hid (wr.heap[w.heap.size]? = some (.cells #[.slice ad ms.length cp, .int .i64 k, .int .i64 c, .int .i64 f] 26 (0, 0))) ∧
    Hid (OwnI w.heap.size wr nv ((ms.length : Int) :: (ms.take j).flatMap fun m => [m.1, m.2]))) (fun _ i _ => ms.length - (intOf i).toNat)
  case atStart => exact ⟨0, Nat.zero_le _, rfl, HB2, HG2, HN0⟩
  case round =>
    obtain ⟨j, hj, rfl, hb, hg, ho⟩ := hrel
    clear HN0 HB2 HG2 g0 g1 g2 g3
    obtain ⟨a5, l5, c5, hv5⟩ : ∃ a l c, u5 = .slice a l c := by obtain ⟨a, c, h, _⟩ := ho.out.rd.shape; exact ⟨a, _, c, h⟩
    subst hv5
    have hlen1 : ((ms.length : Int) :: (ms.take j).flatMap fun m => [m.1, m.2]).length ≤ 1000 := by
      rw [List.length_cons, flat_len, List.length_take]; have := HL.out; omega
    by_cases hlt : j < ms.length
    · obtain ⟨⟨x, t⟩, hx⟩ : ∃ m, m = ms[j] := ⟨_, rfl⟩
      have hgx : ms[j]? = some (x, t) := by rw [hx]; exact List.getElem?_eq_getElem hlt
      obtain ⟨b, o, hi, hbb, c0, c1⟩ := atM (HU.out.below hb.out) j (x, t) hgx
      simp only at c0 c1
      have hq : (j : Int) < (ms.length : Int) := by omega
      have HFT := Lib.hid (flat_take hgx)
      have hfr := below_fresh wr (.cells #[.int .i64 x, .int .i64 t] 48)
      have x0 : (wr.alloc (.cells #[.int .i64 x, .int .i64 t] 48)).cell? ⟨wr.heap.size, 0, none⟩ = some (.int .i64 x) := by simp [World.cell?_alloc_new]
      have x1 : (wr.alloc (.cells #[.int .i64 x, .int .i64 t] 48)).cell? ⟨wr.heap.size, 1, none⟩ = some (.int .i64 t) := by simp [World.cell?_alloc_new]
      generalize hwn : wr.alloc (.cells #[.int .i64 x, .int .i64 t] 48) = wn at hfr x0 x1
      have hfr2 := below_fresh wn (.cells #[.int .i64 x, .int .i64 t] 3)
      have HR2 := Lib.hid (rd2 wn x t)
      have HO2 := Lib.hid ((ho.out.below hfr).below hfr2)
      have HB2 := Lib.hid (bnext hb.out (bnext hfr hfr2))
      have HG2 := Lib.hid (below_block (below_block hg.out hfr) hfr2)
      have hsz := HB2.out.size
      clear hfr hfr2 hb hg ho hx hgx
      go_wp2_with (at_builtin; refine wp_appGS intE rfl _ _ rfl rfl HO2.out rfl HR2.out (by omega) (by simp) hsz ?_)
      intro v3 w3 ho3 hb3 hk3
      have HO3 := Lib.hid (show OwnI w.heap.size w3 v3 ((ms.length : Int) :: (ms.take (j + 1)).flatMap fun m => [m.1, m.2]) by rw [HFT.out]; simpa using ho3)
      have HB3 := Lib.hid (HB2.out.trans hb3)
      have HG3 := Lib.hid (hk3.at HG2.out (by decide))
      clear ho3 hb3 hk3 HO2 HB2 HG2 HR2
      go_wp2
      go_roundw
      case rel => exact ⟨j + 1, by omega, by go_num, HB3, HG3, HO3⟩
      case measure => simp [intOf]; omega
    · have hq : ¬ ((j : Int) < (ms.length : Int)) := by omega
      obtain ⟨⟨g0, g1, g2, g3⟩, _⟩ := row4_at hg.out
      have HR3 := Lib.hid (rd3 wr k c f)
      have hfr := below_fresh wr (.cells #[.int .i64 k, .int .i64 c, .int .i64 f] 3)
      have HO2 := Lib.hid (ho.out.below hfr)
      have HB2 := Lib.hid (bnext hb.out hfr)
      have hsz := HB2.out.size
      have HJ := Lib.hid (show ms.take j = ms from List.take_of_length_le (by omega))
      clear hfr hb hg ho
      go_wp2_with (at_builtin; refine wp_appGS intE rfl _ _ rfl rfl HO2.out rfl HR3.out (by omega) (by simp) hsz ?_)
      intro v3 w3 ho3 hb3 hk3
      have HO3 := Lib.hid (show RdI w3 v3 (gnum ms k c f) by have := ho3.rd; rw [HJ.out] at this; exact this)
      have HB3 := Lib.hid (HB2.out.trans hb3)
      clear ho3 hb3 hk3 HO2 HB2 HR3
      go_wp2_with fail
      refine (HAP.out v3 w3 HB3.out HO3.out).mono ?_
      rintro e w4 ⟨v4, rfl, ho4, hb4⟩
      have HF := Lib.hid (bnext HB3.out hb4)
      have HO4 := Lib.hid (ho4.mono HB3.out.size)
      clear ho4 hb4
      go_wp2
      go_ret
      exact ⟨_, rfl, HO4.out, HF.out⟩

end Go.Proofs.YtkaafbdhgekeeaaGreat
