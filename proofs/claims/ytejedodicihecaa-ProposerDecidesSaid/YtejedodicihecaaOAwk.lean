/-
  The call of the laws' awake: it returns true. Conditions: the contracts of package proposer hold.
-/
import Derived.Test.YtejedodicihecaaOKit
namespace Go.Proofs.Ytejedodicihecaa
open Go.RowKit
open VM (Ent)

theorem PrV.heap {w w' : World} {v : Value} {s : PM.Ps} (h : PrV w v s) (hh : ∀ k, k < w.heap.size → w'.heap[k]? = w.heap[k]?) : PrV w' v s := by
  obtain ⟨u, k, rfl, h1, h2⟩ := h
  exact ⟨u, k, rfl, h1.heap hh, h2.heap hh⟩
theorem offN {w : World} {v : Value} {s : PM.Ps} (h : PrV w v s) : PrO (fun _ => False) w v s := fun _ h2 => h.heap fun k hk => h2 k hk fun h => h
theorem offNV {w : World} {v : Value} {xs : List Ent} (h : VX.RdV w v xs) : Off (fun _ => False) w fun w => VX.RdV w v xs := fun _ h2 => h.heap fun k hk => h2 k hk fun h => h
theorem prO_old {G : Nat → Prop} {W w : World} {v : Value} {s : PM.Ps} (h : PrV W v s) (hb : Below W.heap.size W w) (hG : ∀ k, G k → W.heap.size ≤ k) : PrO G w v s := fun w2 h2 =>
  h.heap fun k hk => by rw [h2 k (by have := hb.size; omega) (fun hg => by have := hG k hg; omega), hb.block k hk]
theorem PrB.cells {t : TypeId} {w : World} {g : Nat} {a b c d e : Value} (h : PrB t w g (.agg #[a, b, c, d, e])) : w.heap[g]? = some (.cells #[a, b, c, d, e] t (0, 0)) := by
  obtain ⟨c0, c1, c2, c3, c4, he, h1⟩ := h
  cases he
  exact h1
/-- What a call of Receive, of Propose gives at a world. -/
abbrev RecvAt (f : Nat) (G : Nat → Prop) (p v : Value) (a r : Int) (T : PM.Ps × Bool) (w : World) : Prop :=
  Calls Try.prog f #[p, .int .i64 a, .int .i64 r, v] w fun e w' => ∃ p', e = .returned (.tuple #[p', .bool T.2]) ∧ PrO G w' p' T.1 ∧ Below w.heap.size w w'
abbrev PropAt (f : Nat) (G : Nat → Prop) (p v : Value) (T : PM.Ps) (w : World) : Prop :=
  Calls Try.prog f #[p, v] w fun e w' => ∃ p', e = .returned p' ∧ PrO G w' p' T ∧ Below w.heap.size w w'
/-- The two blocks that the laws store into. -/
def Two (g : Nat) (k : Nat) : Prop := k = g ∨ k = g + 1
theorem Two.lt {g n : Nat} (h : g + 2 ≤ n) : ∀ k, Two g k → k < n := fun k hk => by rcases hk with rfl | rfl <;> omega
theorem Two.ge {g : Nat} : ∀ k, Two g k → g ≤ k := fun k hk => by rcases hk with rfl | rfl <;> omega
def Thr (g x : Nat) (k : Nat) : Prop := Two g k ∨ k = x
theorem Thr.lt {g x n : Nat} (h : g + 2 ≤ n) (hx : x < n) : ∀ k, Thr g x k → k < n := fun k hk => hk.elim (Two.lt h k) (fun h => by omega)
theorem PrV.shp {w : World} {v : Value} {ac rd : Int} {vl : List Ent} {ks : List Int} {dc : Bool} {n m : Nat} (h : PrV w v ⟨ac, vl, rd, ks, dc⟩) (hn : vl.length = n) (hm : ks.length = m) :
    ∃ ua uc ka kc, v = .agg #[.int .i64 ac, .slice ua n uc, .int .i64 rd, .slice ka m kc, .bool dc] ∧ VX.RdV w (.slice ua n uc) vl ∧ RdI w (.slice ka m kc) ks := by
  subst hn hm
  exact h.shape
theorem oneE (w : World) (x n : Int) : ∃ w0, w.alloc (.cells #[.int .i64 x, .int .i64 n] 49) = w0 ∧ VX.RdV w0 (.slice (some ⟨w.heap.size, 0, none⟩) 1 1) [(x, n)] ∧ Below w.heap.size w w0 :=
  ⟨_, rfl, (VX.ownV_fresh w [(x, n)] (by simp [maxLen])).rd, below_fresh w _⟩
theorem oneE2 (w : World) (x n y m : Int) : ∃ w0, w.alloc (.cells #[.int .i64 x, .int .i64 n, .int .i64 y, .int .i64 m] 49) = w0 ∧ VX.RdV w0 (.slice (some ⟨w.heap.size, 0, none⟩) 2 2) [(x, n), (y, m)] ∧ Below w.heap.size w w0 :=
  ⟨_, rfl, (VX.ownV_fresh w [(x, n), (y, m)] (by simp [maxLen])).rd, below_fresh w _⟩
theorem ov1 {x n : Int} (h1 : 1 ≤ x) (h2 : 1 ≤ n) (h3 : n ≤ 1000000) : VM.Val 0 [(x, n)] := ⟨by show 0 < x; omega, h2, h3, trivial⟩
theorem ov2 : VM.Val 0 [((1 : Int), (1 : Int)), (2, 1)] := ⟨by decide, by decide, by decide, by decide, by decide, by decide, trivial⟩
theorem oj1 : VM.jn [(1, 1)] [(1, 1), (2, 1)] = [(1, 1), (2, 1)] := by simp [VM.jn, VM.mrg, VM.sel, VM.one]; decide
theorem oj2 : VM.jn [(1, 1), (2, 1)] [(3, 1)] = [(1, 1), (2, 1), (3, 1)] := by simp [VM.jn, VM.mrg, VM.sel, VM.one]; decide
theorem os1 : PM.rcv ⟨3, [(1, 1)], 1, [], false⟩ 0 1 [(1, 1), (2, 1)] = (⟨3, [(1, 1), (2, 1)], 2, [], false⟩, true) := by
  rw [PM.rcv_new (by simp) (by decide)]; simp [oj1]
theorem os2 : PM.rcv ⟨3, [(1, 1), (2, 1)], 2, [], false⟩ 0 2 [(1, 1), (2, 1)] = (⟨3, [(1, 1), (2, 1)], 2, [0], false⟩, false) := by
  rw [PM.rcv_ack (by simp) (by decide)]; rfl
theorem os3 : PM.rcv ⟨3, [(1, 1), (2, 1)], 2, [0], false⟩ 2 2 [(1, 1), (2, 1)] = (⟨3, [(1, 1), (2, 1)], 2, [0, 2], true⟩, false) := by
  rw [PM.rcv_ack (by simp) (by decide)]; rfl
theorem os4 : PM.prp ⟨3, [(1, 1), (2, 1)], 2, [0, 2], true⟩ [(3, 1)] = ⟨3, [(1, 1), (2, 1), (3, 1)], 3, [], false⟩ := by
  show PM.Ps.mk 3 (VM.jn [(1, 1), (2, 1)] [(3, 1)]) (2 + 1) [] false = _
  rw [oj2]; rfl
theorem ook {ks : List Int} (h : ks.Pairwise (· < ·)) (hm : ∀ a ∈ ks, 0 ≤ a ∧ a < 3) {vl : List Ent} (hv : VM.Val 0 vl) (r : Int) (d : Bool) : PM.Ok ⟨3, vl, r, ks, d⟩ := ⟨by show (1 : Int) ≤ 3; decide, by show (3 : Int) ≤ 12; decide, hv, h, hm⟩

set_option maxRecDepth 100000 in
set_option maxHeartbeats 4000000 in
theorem cAwake16 (ct : PT) (w : World) : Calls Try.prog 8 #[] w fun e w' => e = .returned (.bool true) ∧ Below w.heap.size w w' := by
  obtain ⟨w0, hw0, hr0, hb0⟩ := oneE w 1 1
  have HC := Lib.hid (ct.new _ 3 _ _ w0 (fun _ h => h.elim) (offNV hr0) (ov1 (by decide) (by decide) (by decide)) (by simp) (by decide) (by decide))
  have HW := Lib.hid hw0
  have HB := Lib.hid hb0
  clear hr0 hw0 hb0
  go_enter Try.func8, Try.ntmps8
  go_wp2_with fail
  rw [HW.out]
  refine HC.out.mono ?_
  rintro e w1 ⟨p1, rfl, hp1, hb1⟩
  obtain ⟨ua, uc, ka, kc, rfl, _, _⟩ := hp1.rd.shp (n := 1) (m := 0) rfl rfl
  replace HB := Lib.hid (bnext HB.out hb1)
  clear hb1 HC HW
  go_upto_region 2 with fail
  obtain ⟨w2, hw2, hA, hb2, -⟩ := oneP 31 w1 (.int .i64 3) (.slice ua 1 uc) (.int .i64 1) (.slice ka 0 kc) (.bool false)
  rw [hw2]
  replace HB := Lib.hid (bnext HB.out hb2)
  have HP := Lib.hid (hp1.rd.below hb2)
  generalize w1.heap.size = g1 at hA
  clear hw2 hb2 hp1
  obtain ⟨w3, hw3, hr3, hb3⟩ := oneE2 w2 1 1 2 1
  have hc := ct.recv _ _ _ _ 0 1 _ w3 (fun _ h => h.elim) (offN (HP.out.below hb3)) (offNV hr3) (ook List.Pairwise.nil (fun _ h => by cases h) (ov1 (by decide) (by decide) (by decide)) 1 false) ov2 (by simp) (by simp) (by decide) (by decide)
  rw [os1] at hc
  have HC := Lib.hid hc
  have HW := Lib.hid hw3
  replace HB := Lib.hid (bnext HB.out hb3)
  obtain ⟨c0, c1, c2, c3, c4⟩ := five hA
  have HA := Lib.hid (below_blk hA hb3)
  clear hc hr3 hw3 hb3 hA HP
  go_wp2_with fail
  rw [HW.out]
  refine HC.out.mono ?_
  rintro e w4 ⟨p4, rfl, hp4, hb4⟩
  obtain ⟨ub, ud, kb, kd, rfl, _, _⟩ := hp4.rd.shp (n := 2) (m := 0) rfl rfl
  replace HB := Lib.hid (bnext HB.out hb4)
  replace HA := Lib.hid (below_blk HA.out hb4)
  clear hb4 HC HW c0 c1 c2 c3 c4
  go_upto_region 3 with fail
  obtain ⟨w5, hw5, hD, hb5, -⟩ := oneP 31 w4 (.int .i64 3) (.slice ub 2 ud) (.int .i64 2) (.slice kb 0 kd) (.bool false)
  rw [hw5]
  replace HB := Lib.hid (bnext HB.out hb5)
  replace HA := Lib.hid (below_blk HA.out hb5)
  have hp := hp4.rd.below hb5
  obtain ⟨_, _, _, _, he, hru, _⟩ := hp.shp (n := 2) (m := 0) rfl rfl
  cases he
  have HU := Lib.hid hru
  have hc := ct.recv _ _ _ _ 0 2 _ w5 (fun _ h => h.elim) (offN hp) (offNV hru) (ook List.Pairwise.nil (fun _ h => by cases h) ov2 2 false) ov2 (by simp) (by simp) (by decide) (by decide)
  rw [os2] at hc
  have HC := Lib.hid hc
  generalize w4.heap.size = g4 at hD
  obtain ⟨c0, c1, c2, c3, c4⟩ := five hD
  have HD := Lib.hid hD
  clear hw5 hb5 hp4 hD hp hru hc
  go_wp2_with fail
  refine HC.out.mono ?_
  rintro e w6 ⟨p6, rfl, hp6, hb6⟩
  obtain ⟨ue, uf, ke, kf, rfl, _, _⟩ := hp6.rd.shp (n := 2) (m := 1) rfl rfl
  replace HB := Lib.hid (bnext HB.out hb6)
  replace HA := Lib.hid (below_blk HA.out hb6)
  replace HD := Lib.hid (below_blk HD.out hb6)
  replace HU := Lib.hid (HU.out.below hb6)
  clear hb6 HC c0 c1 c2 c3 c4
  go_upto_region 4 with fail
  obtain ⟨w7, hw7, hE, hb7, -⟩ := oneP 31 w6 (.int .i64 3) (.slice ue 2 uf) (.int .i64 2) (.slice ke 1 kf) (.bool false)
  rw [hw7]
  replace HB := Lib.hid (bnext HB.out hb7)
  replace HA := Lib.hid (below_blk HA.out hb7)
  replace HD := Lib.hid (below_blk HD.out hb7)
  have hp := hp6.rd.below hb7
  have hru := HU.out.below hb7
  have hc := ct.recv _ _ _ _ 2 2 _ w7 (fun _ h => h.elim) (offN hp) (offNV hru) (ook (by simp) (fun a h => by rw [List.mem_singleton.1 h]; decide) ov2 2 false) ov2 (by simp) (by simp) (by decide) (by decide)
  rw [os3] at hc
  have HC := Lib.hid hc
  generalize w6.heap.size = g6 at hE
  obtain ⟨c0, c1, c2, c3, c4⟩ := five hE
  obtain ⟨d0, d1, d2, d3, d4⟩ := five HD.out
  have HE := Lib.hid hE
  clear hw7 hb7 hp6 hE hp hru hc HU
  go_wp2_with fail
  refine HC.out.mono ?_
  rintro e w8 ⟨p8, rfl, hp8, hb8⟩
  obtain ⟨ug, uh, kg, kh, rfl, _, _⟩ := hp8.rd.shp (n := 2) (m := 2) rfl rfl
  replace HB := Lib.hid (bnext HB.out hb8)
  replace HA := Lib.hid (below_blk HA.out hb8)
  replace HD := Lib.hid (below_blk HD.out hb8)
  clear hb8 HC HE c0 c1 c2 c3 c4 d0 d1 d2 d3 d4
  go_upto_region 5 with fail
  obtain ⟨w9, hw9, hF, hb9, -⟩ := oneP 31 w8 (.int .i64 3) (.slice ug 2 uh) (.int .i64 2) (.slice kg 2 kh) (.bool true)
  rw [hw9]
  replace HB := Lib.hid (bnext HB.out hb9)
  replace HA := Lib.hid (below_blk HA.out hb9)
  replace HD := Lib.hid (below_blk HD.out hb9)
  have HP := Lib.hid (hp8.rd.below hb9)
  generalize w8.heap.size = g8 at hF
  clear hw9 hb9 hp8
  obtain ⟨wa, hwa, hra, hba⟩ := oneE w9 3 1
  have hc := ct.prop _ _ _ _ _ wa (fun _ h => h.elim) (offN (HP.out.below hba)) (offNV hra) (ook (by decide) (fun a h => by simp at h; omega) ov2 2 true) (ov1 (by decide) (by decide) (by decide)) (by simp) (by simp) (by decide) (by decide)
  rw [os4] at hc
  have HC := Lib.hid hc
  have HW := Lib.hid hwa
  replace HB := Lib.hid (bnext HB.out hba)
  replace HA := Lib.hid (below_blk HA.out hba)
  replace HD := Lib.hid (below_blk HD.out hba)
  obtain ⟨c0, c1, c2, c3, c4⟩ := five hF
  have HF := Lib.hid (below_blk hF hba)
  clear hc hra hwa hba hF HP
  go_wp2_with fail
  rw [HW.out]
  refine HC.out.mono ?_
  rintro e wb ⟨pb, rfl, hpb, hbb⟩
  obtain ⟨ui, uj, ki, kj, rfl, _, _⟩ := hpb.rd.shp (n := 3) (m := 0) rfl rfl
  replace HB := Lib.hid (bnext HB.out hbb)
  replace HA := Lib.hid (below_blk HA.out hbb)
  replace HD := Lib.hid (below_blk HD.out hbb)
  replace HF := Lib.hid (below_blk HF.out hbb)
  clear hbb HC HW c0 c1 c2 c3 c4
  go_upto_region 6 with fail
  obtain ⟨wc, hwc, hG, hbc, -⟩ := oneP 31 wb (.int .i64 3) (.slice ui 3 uj) (.int .i64 3) (.slice ki 0 kj) (.bool false)
  rw [hwc]
  replace HB := Lib.hid (bnext HB.out hbc)
  obtain ⟨a0, a1, a2, a3, a4⟩ := five (below_blk HA.out hbc)
  obtain ⟨d0, d1, d2, d3, d4⟩ := five (below_blk HD.out hbc)
  obtain ⟨f0, f1, f2, f3, f4⟩ := five (below_blk HF.out hbc)
  generalize wb.heap.size = gb at hG
  obtain ⟨c0, c1, c2, c3, c4⟩ := five hG
  clear hwc hbc hpb hG HA HD HF
  go_wp2
  go_ret
  exact ⟨rfl, HB.out⟩
end Go.Proofs.Ytejedodicihecaa
