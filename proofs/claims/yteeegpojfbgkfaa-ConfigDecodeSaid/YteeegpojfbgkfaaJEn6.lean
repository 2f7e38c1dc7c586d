/-
  The call of proposal.Append: the bytes, and behind them the proposal's encoding. Conditions: the bytes and the changes read; the proposal is valid.
-/
import Derived.Test.YteeegpojfbgkfaaValApp
import Derived.Test.YteeegpojfbgkfaaKC
namespace Go.Proofs.Yteeegpojfbgkfaa
open Go.RowKit
open JM (Chg)

/-- The numbers of a proposal. -/
def pnum (a n : Int) (cs : List Chg) : List Int := [a, n, (cs.length : Int)] ++ cs.flatMap JM.ofChg
theorem pnum_enc (a n : Int) (cs : List Chg) : JM.encN (pnum a n cs) = JM.encP a n cs := by
  unfold pnum JM.encP
  rw [JM.encN_append]
  congr 1
  induction cs with
  | nil => rfl
  | cons x cs ih => rw [List.flatMap_cons, JM.encN_append, ih, JM.encCs_cons]
theorem pnum_len (a n : Int) (cs : List Chg) : (pnum a n cs).length = 3 + 7 * cs.length := by
  unfold pnum
  induction cs with
  | nil => rfl
  | cons x cs ih =>
    rw [List.length_append] at ih ⊢
    rw [List.flatMap_cons, List.length_append, JM.ofChg_length]
    simp only [List.length_cons, List.length_nil] at ih ⊢
    omega
theorem row3_at6 {w : World} {g : Nat} {t : TypeId} {a0 a1 a2 : Value} (h : w.heap[g]? = some (.cells #[a0, a1, a2] t (0, 0))) :
    w.cell? ⟨g, 0, none⟩ = some a0 ∧ w.cell? ⟨g, 1, none⟩ = some a1 ∧ w.cell? ⟨g, 2, none⟩ = some a2 := by
  refine ⟨?_, ?_, ?_⟩ <;> simp [World.cell?, h]

set_option maxRecDepth 100000 in
set_option maxHeartbeats 4000000 in
theorem cAppend (v : Value) (bs : List Int) (a n : Int) (u : Value) (cs : List Chg) (w : World) (h : Rd w v bs) (hu : RdC w u cs) (he : JM.errP a n cs = 0) (hlen : bs.length ≤ 1099511627776) :
    Calls Try.prog 75 #[v, pv a n u] w fun e w' => ∃ v', e = .returned v' ∧ Own w.heap.size w' v' (bs ++ JM.encP a n cs) ∧ Below w.heap.size w w' := by
  obtain ⟨ad, cp, rfl, hc, hl⟩ := hu.shape
  have hsm := JM.head_small he
  obtain ⟨_, _, h6, _, hsc⟩ := JM.errP_small he
  have hs : ∀ x ∈ pnum a n cs, JM.small x := by
    intro x hx
    unfold pnum at hx
    rcases List.mem_append.1 hx with hx | hx
    · exact hsm x hx
    · obtain ⟨y, hy, hxy⟩ := List.mem_flatMap.1 hx
      exact hsc y hy x hxy
  have hB := below_fresh w (.cells #[.int .i64 a, .int .i64 n, .slice ad cs.length cp] 45)
  have hG := heap_alloc_new w (.cells #[.int .i64 a, .int .i64 n, .slice ad cs.length cp] 45)
  generalize hw1 : w.alloc (.cells #[.int .i64 a, .int .i64 n, .slice ad cs.length cp] 45) = w1 at hB hG
  have hn0 := ownG_fresh hlI 3 w1 [a, n, (cs.length : Int)] (by unfold maxLen; simp)
  have hb0 := below_fresh w1 (.cells #[.int .i64 a, .int .i64 n, .int .i64 (cs.length : Int)] 3)
  obtain ⟨w2, hw2⟩ : ∃ w2, w1.alloc (.cells #[.int .i64 a, .int .i64 n, .int .i64 (cs.length : Int)] 3) = w2 := ⟨_, rfl⟩
  have hn0' : OwnI w1.heap.size w2 (.slice (some ⟨w1.heap.size, 0, none⟩) 3 3) ([a, n, (cs.length : Int)] ++ (cs.take 0).flatMap JM.ofChg) := by rw [← hw2]; exact hn0
  rw [hw2] at hb0
  have HW := Lib.hid hw1
  have HW2 := Lib.hid hw2
  have hs1' : w1.heap.size = w.heap.size + 1 := by rw [← hw1]; exact World.size_alloc _ _
  have hn00 : OwnI w.heap.size w2 (.slice (some ⟨w1.heap.size, 0, none⟩) 3 3) ([a, n, (cs.length : Int)] ++ (cs.take 0).flatMap JM.ofChg) := hn0'.mono (by omega)
  rw [hs1'] at hn00
  have HN0 := Lib.hid hn00
  clear hn00 hs1'
  have HB := Lib.hid hB
  have HG := Lib.hid hG
  have HB2 := Lib.hid (bnext hB hb0)
  have HG2 := Lib.hid (below_block hG hb0)
  have HU := Lib.hid hu
  have HL := Lib.hid h6
  have HAP := Lib.hid (fun (z : Value) (w' : World) (hb : Below w.heap.size w w') (hz : RdI w' z (pnum a n cs)) => cAppendNumbers v z bs (pnum a n cs) w' (h.below hb) hz hs (by rw [pnum_len]; omega) hlen)
  rw [pnum_enc] at HAP
  have hcl : (cs.length : Int) ≤ 6 := by omega
  obtain ⟨g0, g1, g2⟩ := row3_at6 hG
  clear h hu hs h6 hw1 hw2 hn0 hn0' hB hG hb0 hsm hsc he
  go_enter Try.func75, Try.ntmps75
  go_wp2
  rw [HW.out, HW2.out]
  go_loopw [5, 19] (fun nv i wr => ∃ (j : Nat) (na : Option Addr) (nl nc : Nat), j ≤ cs.length ∧ nv = .slice na nl nc ∧ i = .int .i64 j ∧ Hid (Below w.heap.size w wr) ∧ Hid (OwnI w.heap.size wr (.slice na nl nc) ([a, n, (cs.length : Int)] ++ (cs.take j).flatMap JM.ofChg))) (fun _ i _ => cs.length - (intOf i).toNat)
  case atStart => exact ⟨0, _, _, _, Nat.zero_le _, rfl, rfl, HB2, HN0⟩
  case round =>
    obtain ⟨j, na, nl, nc, hj, rfl, rfl, hb, ho⟩ := hrel
    clear HN0 HB2 HG2 g0 g1 g2
    have hlen1 : ([a, n, (cs.length : Int)] ++ (cs.take j).flatMap JM.ofChg).length ≤ 1000 := by
      have := pnum_len a n (cs.take j)
      unfold pnum at this
      simp only [List.length_append, List.length_cons, List.length_nil, List.length_take] at this ⊢
      have := HL.out
      omega
    have HLEN := Lib.hid hlen1
    clear hlen1
    by_cases hlt : j < cs.length
    · obtain ⟨⟨k, s, t, y, a', b', c'⟩, hx⟩ : ∃ m, m = cs[j] := ⟨_, rfl⟩
      have hgx : cs[j]? = some (k, s, t, y, a', b', c') := by rw [hx]; exact List.getElem?_eq_getElem hlt
      obtain ⟨b, o, hi, hbb, c0, c1, c2, c3, c4, c5, c6⟩ := atC (HU.out.below hb.out) j _ _ _ _ _ _ _ hgx
      have hq : (j : Int) < (cs.length : Int) := by omega
      have HFT : Hid ((cs.take (j + 1)).flatMap JM.ofChg = (cs.take j).flatMap JM.ofChg ++ [k, s, t, y, a', b', c']) := Lib.hid (by rw [List.take_add_one, hgx, List.flatMap_append]; rfl)
      obtain ⟨Z, hZ⟩ : ∃ Z, Z = Obj.cells #[.int .i64 k, .int .i64 s, .int .i64 t, .int .i64 y, .int .i64 a', .int .i64 b', .int .i64 c'] 63 := ⟨_, rfl⟩
      have hfr := below_fresh wr Z
      have hz1 : (wr.alloc Z).heap[wr.heap.size]? = some Z := heap_alloc_new wr Z
      rw [hZ] at hz1
      have x0 : (wr.alloc Z).cell? ⟨wr.heap.size, 0, none⟩ = some (.int .i64 k) := by rw [hZ]; simp [World.cell?_alloc_new]
      have x1 : (wr.alloc Z).cell? ⟨wr.heap.size, 1, none⟩ = some (.int .i64 s) := by rw [hZ]; simp [World.cell?_alloc_new]
      have x2 : (wr.alloc Z).cell? ⟨wr.heap.size, 2, none⟩ = some (.int .i64 t) := by rw [hZ]; simp [World.cell?_alloc_new]
      have x3 : (wr.alloc Z).cell? ⟨wr.heap.size, 3, none⟩ = some (.int .i64 y) := by rw [hZ]; simp [World.cell?_alloc_new]
      have x4 : (wr.alloc Z).cell? ⟨wr.heap.size, 4, none⟩ = some (.int .i64 a') := by rw [hZ]; simp [World.cell?_alloc_new]
      have x5 : (wr.alloc Z).cell? ⟨wr.heap.size, 5, none⟩ = some (.int .i64 b') := by rw [hZ]; simp [World.cell?_alloc_new]
      have x6 : (wr.alloc Z).cell? ⟨wr.heap.size, 6, none⟩ = some (.int .i64 c') := by rw [hZ]; simp [World.cell?_alloc_new]
      obtain ⟨wn, hwn⟩ : ∃ wn, wr.alloc Z = wn := ⟨_, rfl⟩
      rw [hwn] at hfr x0 x1 x2 x3 x4 x5 x6
      rw [hZ] at hwn
      have hfr2 := below_fresh wn (.cells #[.int .i64 k, .int .i64 s, .int .i64 t, .int .i64 y, .int .i64 a', .int .i64 b', .int .i64 c'] 3)
      have HR2 := Lib.hid (show RdI (wn.alloc (.cells #[.int .i64 k, .int .i64 s, .int .i64 t, .int .i64 y, .int .i64 a', .int .i64 b', .int .i64 c'] 3)) (.slice (some ⟨wn.heap.size, 0, none⟩) 7 7) [k, s, t, y, a', b', c'] from (ownG_fresh hlI 3 wn [k, s, t, y, a', b', c'] (by unfold maxLen; simp)).rd)
      have HO2 := Lib.hid ((ho.out.below hfr).below hfr2)
      have HB2 := Lib.hid (bnext hb.out (bnext hfr hfr2))
      have HWN := Lib.hid hwn
      have hsz := HB2.out.size
      clear hfr hfr2 hb ho hx hgx hz1 hZ Z hwn
      go_upto_region 5 with fail
      rw [HWN.out]
      clear c0 c1 c2 c3 c4 c5 c6 HWN
      go_wp2_with (at_builtin; refine wp_appGS intE rfl _ _ rfl rfl HO2.out rfl HR2.out (by have := HLEN.out; omega) (by simp) hsz ?_)
      intro v3 w3 ho3 hb3 hk3
      obtain ⟨na', nc', hv3, _⟩ := ho3.rd.shape
      have HO3 := Lib.hid (show OwnI w.heap.size w3 v3 ([a, n, (cs.length : Int)] ++ (cs.take (j + 1)).flatMap JM.ofChg) by rw [HFT.out]; simpa using ho3)
      subst hv3
      have HB3 := Lib.hid (HB2.out.trans hb3)
      clear ho3 hb3 hk3 HO2 HB2 HR2 x0 x1 x2 x3 x4 x5 x6
      go_wp2
      go_roundw
      case rel => exact ⟨j + 1, _, _, _, by omega, rfl, by go_num, HB3, HO3⟩
      case measure => simp [intOf]; omega
    · have hq : ¬ ((j : Int) < (cs.length : Int)) := by omega
      have HO3 := Lib.hid (show RdI wr (.slice na nl nc) (pnum a n cs) by have := ho.out.rd; rw [List.take_of_length_le (by omega)] at this; exact this)
      have HB3 := hb
      clear ho hb
      go_wp2_with fail
      refine (HAP.out _ wr HB3.out HO3.out).mono ?_
      rintro e w4 ⟨v4, rfl, ho4, hb4⟩
      have HF := Lib.hid (bnext HB3.out hb4)
      have HO4 := Lib.hid (ho4.mono HB3.out.size)
      clear ho4 hb4
      go_wp2
      go_ret
      exact ⟨_, rfl, HO4.out, HF.out⟩

end Go.Proofs.Yteeegpojfbgkfaa
