/-
  The calls of slices.Backward over edges, its closure, and graph.firstSteps: a map of the first steps towards a node. Conditions: the graph reads.
-/
import Derived.RangeFuncBox
import Derived.RangeFuncLeaves
import Derived.RangeFuncWrites
import Derived.RangeFuncNested
import Derived.Shelf.Abstract
import Derived.WalkKit
import Derived.OwnWalkIn
import Derived.TacticsInMore
import Derived.LoopNIn
import Derived.LoopIn
import Derived.Maps.OwnIn
import Derived.Test.YtkgkhofkhjgnbaaGreatGPa
import Derived.Test.YtkgkhofkhjgnbaaGreatGSt
namespace Go.Proofs.YtkgkhofkhjgnbaaGreat
open Go.RowKit Go.Joins Go.Shelf Go.Maps
open JM (Chg)
open CM (Fp)
open VM (Ent)
attribute [local go_sem] Oper.semAt_some

set_option maxHeartbeats 1000000 in
theorem back_in (F : Fence) (n : Nat) (h5 : F.fn 72) (hro : F.round = none) (a : Option Addr) (len cap : Nat) (w : World) :
    CallsIn F n Tryz.prog 72 #[.slice a len cap] w fun e w' => e = .returned (.func (.func 87) #[] #[.pointer (some ⟨w.heap.size, 0, none⟩)]) ∧ w' = w.alloc (.cells #[.slice a len cap] 29) := by
  refine callsIn_of_wp Tryz.func72 rfl h5 ?_ hro
  simp only [Tryz.ntmps72, List.size_toArray, List.length_cons, List.length_nil, Nat.reduceAdd, Nat.reduceSub, Array.replicate_succ, Array.replicate_zero, List.push_toArray, List.append_toArray, List.nil_append, List.cons_append]
  gi_wp2
  go_ret
  exact ⟨rfl, rfl⟩

/-- What lay below n0 stays, but the block b. -/
def KeepB (b n0 : Nat) (A B : World) : Prop := A.heap.size ≤ B.heap.size ∧ ∀ k, k < n0 → k ≠ b → B.heap[k]? = A.heap[k]?
theorem KeepB.refl (b n0 : Nat) (A : World) : KeepB b n0 A A := ⟨Nat.le_refl _, fun _ _ _ => rfl⟩
theorem keepB_t {b n0 : Nat} {A B C : World} (h : KeepB b n0 A B) (k : KeepB b n0 B C) : KeepB b n0 A C := ⟨Nat.le_trans h.1 k.1, fun i hi hne => (k.2 i hi hne).trans (h.2 i hi hne)⟩
theorem keepB_b {b n0 : Nat} {w : World} (hn : n0 ≤ w.heap.size) (W : World) (l : Nat) (o o' : Obj) (hl : w.heap.size ≤ l) (h : W.heap[l]? = some o) (_ : o.isCells = false) (_ : o.isWalk = false) : KeepB b n0 W (W.putObj l o') := by
  have hg := grownBy_putObj' W l o'
  exact ⟨hg.size, fun k hk _ => hg.block k (by have := (Array.getElem?_eq_some_iff.1 h).1; omega) (by intro e; cases e; omega)⟩
theorem keepB_cell {b n0 : Nat} {A B : World} (h : KeepB b n0 A B) {es : Array MapEntry} {clock : Nat} (hm : A.heap[b]? = some (.map es clock)) {p : Addr} {v : Value} (hp : p.block < n0) (hc : A.cell? p = some v) : B.cell? p = some v := by
  have hne : p.block ≠ b := by
    intro e
    unfold World.cell? at hc
    rw [e, hm] at hc
    cases hc
  unfold World.cell? at hc ⊢
  rw [h.2 p.block hp hne]
  exact hc

/-- The arguments of a round. -/
def encB (es : List GM.Ed) (i : Fin es.length) : Array Value := #[.int .i64 (i.val : Int), .agg #[.int .i64 ((es.get i).1 : Int), .int .i64 ((es.get i).2 : Int)]]
theorem lt_of_neg {x : Int} (h : 0 ≤ x) : x ≥ 0 := h

set_option maxRecDepth 100000 in
set_option maxHeartbeats 2000000 in
/-- The closure of slices.Backward, for every body that keeps what lay below n0 but the block b. -/
theorem back1_in (F : Fence) (n : Nat) (h7 : F.fn 87) (hro : F.round = none) (hn : 1 ≤ n) (l Bs b n0 : Nat) (v : Value) (es : List GM.Ed) (hz : es.length ≤ 1000000) (J Jx : List (Fin es.length) → World → Prop)
    (hY : ∀ pre x W, J pre W → pre.length < es.length → YieldAt F (n - 1) Tryz.prog l (encB es x) W fun e W' =>
      (e = .returned (.bool true) ∧ J (pre ++ [x]) W' ∧ KeepB b n0 W W') ∨ (e = .returned (.bool false) ∧ Jx (pre ++ [x]) W'))
    (W : World) (hBs : ∀ W', KeepB b n0 W W' → W'.cell? ⟨Bs, 0, none⟩ = some v) (hrd : ∀ W', KeepB b n0 W W' → RdE2 W' v es) (h0 : J [] W) :
    CallsIn F n Tryz.prog 87 #[.func (.yield l) #[] #[], .pointer (some ⟨Bs, 0, none⟩)] W fun e W' => (∃ v, e = .returned v) ∧
      ((∃ ys, ys = GM.dn es.length es.length (Nat.le_refl _) ∧ J ys W') ∨ (∃ pre, True ∧ Jx pre W')) := by
  obtain ⟨a, c, rfl, _, _⟩ := (hrd W (KeepB.refl _ _ _)).shape
  have HRD := Lib.hid hrd
  have HBS := Lib.hid hBs
  have c0 := hBs W (KeepB.refl _ _ _)
  obtain ⟨N, hN⟩ : ∃ N, N = es.length := ⟨_, rfl⟩
  clear hrd hBs
  refine callsIn_of_wp Tryz.func87 rfl h7 ?_ hro
  simp only [Tryz.ntmps87, List.size_toArray, List.length_cons, List.length_nil, Nat.reduceAdd, Nat.reduceSub, Array.replicate_succ, Array.replicate_zero, List.push_toArray, List.append_toArray, List.nil_append, List.cons_append]
  gi_wp2
  gi_loopw [3] (fun i wr => ∃ (k : Nat) (hk : k ≤ es.length), i = .int .i64 ((es.length : Int) - 1 - k) ∧ J (GM.dn es.length k hk) wr ∧ KeepB b n0 W wr)
    (fun i _ => (intOf i + 1).toNat)
  case atStart => exact ⟨0, Nat.zero_le _, by go_num, h0, KeepB.refl _ _ _⟩
  case round =>
    obtain ⟨k, hk, rfl, hJs, hnx⟩ := hrel
    by_cases hlt : k < es.length
    · have hik : es.length - 1 - k < es.length := by omega
      have HJN := Lib.hid (show GM.dn es.length (k + 1) (by omega) = GM.dn es.length k hk ++ [⟨es.length - 1 - k, hik⟩] from rfl)
      obtain ⟨x, hx⟩ : ∃ x : Fin es.length, x = ⟨es.length - 1 - k, hik⟩ := ⟨_, rfl⟩
      rw [← hx] at HJN
      have hxv : (x.val : Int) = (es.length : Int) - 1 - k := by rw [hx]; show ((es.length - 1 - k : Nat) : Int) = _; omega
      obtain ⟨b', o, hi, hb, hcs⟩ := (HRD.out wr hnx).at_ edgE x.val (es.get x) (List.getElem?_eq_getElem x.isLt)
      have m0 : wr.cell? ⟨b', o, none⟩ = some (.int .i64 ((es.get x).1 : Int)) := hcs 0 _ rfl
      have m1 : wr.cell? ⟨b', o + 1, none⟩ = some (.int .i64 ((es.get x).2 : Int)) := hcs 1 _ rfl
      have c0 := HBS.out wr hnx
      obtain ⟨fn, tmps, assign, body, hy, hR⟩ := hY _ x wr hJs (by rw [GM.dn_len]; exact hlt)
      unfold encB at hy
      rw [hxv] at hi hy
      have hge : (0 : Int) ≤ (es.length : Int) - 1 - k := by omega
      clear hcs hb hxv hx
      obtain ⟨f1, hf1⟩ : ∃ f1, f1 = (es.get x).1 := ⟨_, rfl⟩
      obtain ⟨f2, hf2⟩ : ∃ f2, f2 = (es.get x).2 := ⟨_, rfl⟩
      rw [← hf1] at m0 hy
      rw [← hf2] at m1 hy
      clear hf1 hf2
      gi_wp2
      refine hR.mono ?_
      rintro e W3 (⟨rfl, hJ3, hk3⟩ | ⟨rfl, hJx3⟩)
      · gi_wp2
        go_roundw
        case rel => exact ⟨k + 1, by omega, by go_num, by rw [HJN.out]; exact hJ3, keepB_t hnx hk3⟩
        case measure => simp [intOf]; omega
      · gi_wp2
        refine bodyPost_ret (results_none rfl _ _ _) rfl ?_
        exact ⟨⟨_, rfl⟩, .inr ⟨_, trivial, hJx3⟩⟩
    · obtain rfl : k = es.length := by omega
      have hge : ¬ (0 : Int) ≤ (es.length : Int) - 1 - es.length := by omega
      gi_wp2
      go_end0
      exact ⟨⟨_, rfl⟩, .inl (by first | exact hJs | exact ⟨_, rfl, hJs⟩)⟩

/-- 'map[K]V{k: v}' at the operation, in a fence. -/
theorem wpListIn_insert_own {H : Type} {F : Fence} {nF : Nat} {P : Program} (w : World) {ops : Array Oper} {rest : List Oper} {o : Oper} {a : Act} {Q : Exit → Act → World → Prop}
    (hg : o.guard = none) (m x v : Operand) (t : TypeId) (hop : o.op = Op.insert t m x v)
    (k e : TypeId) (K : Keyed P k) (ht : P.underlying t = some (.map k e)) (R : Value → Option (DataW H × List MemPlace)) (b n : Nat) (D : DataW H)
    (hm : a.eval m = .map (some b)) (hown : w.ownsMap P k R b n D) (hn : n < maxLen) (key val : Value) (kl : Lit) (hx : a.eval x = key) (hv : a.eval v = val) (hkey : keyOf P k key = some kl)
    (d : DataW H) (ps : List MemPlace) (hval : R val = some (d, ps))
    (hK : ∀ w', w'.ownsMap P k R b (n + 1) (D.put kl d) → w.grownBy w' (some b) → wpListIn F nF P ops Q rest (a.put o.dst undef) w') :
    wpListIn F nF P ops Q (o :: rest) a w := by
  refine wpListIn_plain hg fun K' hK' => ?_
  obtain ⟨w', hrun, r1, r2⟩ := hown.update K ht hn hkey hval
  unfold Oper.wpIn
  refine ⟨by simp [Oper.about, hop], ?_⟩
  rw [Oper.semAt_plain F _ _ (by rw [hop]; intro c hc'; cases hc')]
  simp [execOp, hop, hm, hx, hv, hrun, Result.andThen]
  exact hK' _ _ (hK w' r1 r2)

/-- The map D holds s. -/
structure StD (D : DataW Unit) (s : Nat → Option Nat) : Prop where
  map : Maps.IsMap D
  has : ∀ v : Nat, Maps.has D (.int .i64 (v : Int)) = (s v).isSome
  at_ : ∀ v u : Nat, s v = some u → D.atKey (.int .i64 (v : Int)) (.lit (.int .i64 0)) = .lit (.int .i64 (u : Int))
theorem StD.put {D : DataW Unit} {s : Nat → Option Nat} (h : StD D s) (a b : Nat) : StD (D.put (.int .i64 (a : Int)) (.lit (.int .i64 (b : Int)))) (fun v => if v = a then some b else s v) := by
  refine ⟨h.map.put _ _, fun v => ?_, fun v u hu => ?_⟩
  · by_cases hv : v = a
    · subst hv
      rw [Maps.has_put_same h.map (show WideAt.IsKeyLit (.int _ _) from trivial)]; simp
    · rw [Maps.has_put_other (key_ne hv), h.has]; simp [hv]
  · by_cases hv : v = a
    · subst hv
      rw [Maps.atKey_put_same h.map (show WideAt.IsKeyLit (.int _ _) from trivial)]
      simp at hu; rw [hu]
    · rw [Maps.atKey_put_other (key_ne hv)]
      exact h.at_ v u (by simpa [hv] using hu)
theorem StD.del {D : DataW Unit} {s : Nat → Option Nat} (h : StD D s) (a : Nat) : StD (D.del (.int .i64 (a : Int))) (fun v => if v = a then none else s v) := by
  refine ⟨h.map.del _, fun v => ?_, fun v u hu => ?_⟩
  · by_cases hv : v = a
    · subst hv
      rw [Maps.has_del_same]; simp
    · rw [Maps.has_del_other (key_ne hv), h.has]; simp [hv]
  · by_cases hv : v = a
    · subst hv; simp at hu
    · rw [Maps.atKey_del_other (key_ne hv)]
      exact h.at_ v u (by simpa [hv] using hu)
theorem StD.start (t : Nat) : StD ((DataW.map []).put (.int .i64 (t : Int)) (.lit (.int .i64 (t : Int)))) (GM.st0 t) := by
  have h0 : StD (.map []) (fun _ => none) := ⟨⟨[], rfl⟩, fun _ => rfl, fun _ _ h => by cases h⟩
  exact h0.put t t

theorem rdE_keepB {w5 W W' : World} {B : Nat} {v : Value} {es : List GM.Ed} (h : RdE2 w5 v es) (hW : Below w5.heap.size w5 W) (hk : KeepB B w5.heap.size W W') {ms : Array MapEntry} {ck : Nat} (hm : W.heap[B]? = some (.map ms ck)) : RdE2 W' v es := by
  obtain ⟨a, c, rfl, h1, h2, h3, hl, h4⟩ := h
  exact ⟨a, c, rfl, h1, h2, h3, hl, fun x hx j u hu => keepB_cell hk hm (World.block_lt_of_cell? w5 _ (h4 x hx j u hu)) (below_cell hW (h4 x hx j u hu))⟩
/-- Between two rounds: the map of the first steps, in block B; all else that lay in w0 stays. -/
def Ifs (es : List GM.Ed) (t B : Nat) (w0 : World) (pre : List (Fin es.length)) (W : World) : Prop :=
  ∃ (D : DataW Unit) (m : Nat), W.ownsMap Tryz.prog 3 (plainElem Tryz.prog 3) B m D ∧ StD D (GM.stf t (pre.map fun i => es[i])) ∧ m ≤ pre.length + 1 ∧ OnlyB B w0 W
theorem ifs_from (es : List GM.Ed) (t B : Nat) (w0 : World) (hB : B < w0.heap.size) : OwnFrom w0.heap.size (Ifs es t B w0) := by
  rintro pre W W' row ⟨D, m, h1, h2, h3, h4⟩ hg hr
  refine ⟨D, m, h1.kept hg (fun e => by have := (hr B e.symm).1; omega), h2, h3, ?_⟩
  obtain ⟨a1, a2, a3, a4, a5⟩ := h4
  exact ⟨hg.os.trans a1, hg.tape.trans a2, hg.output.trans a3, Nat.le_trans a4 hg.size, fun k hk hne => (hg.block k (by omega) (fun e => by have := (hr k e.symm).1; omega)).trans (a5 k hk hne)⟩

set_option maxRecDepth 100000 in
set_option maxHeartbeats 4000000 in
theorem cFirst (na xa : Option Addr) (nl nc xl xc : Nat) (es : List GM.Ed) (t : Nat) (w : World) (h : RdE2 w (.slice xa xl xc) es) (hes : ∀ e ∈ es, e.1 ≤ 1000000 ∧ e.2 ≤ 1000000) (hl : es.length ≤ 1000000) (ht : t ≤ 1000000) :
    CallsIn Fence.wide 9 Tryz.prog 54 #[.agg #[.slice na nl nc, .slice xa xl xc], .int .i64 (t : Int)] w fun e w' => ∃ (B m : Nat) (D : DataW Unit), e = .returned (.map (some B)) ∧ w'.ownsMap Tryz.prog 3 (plainElem Tryz.prog 3) B m D ∧
      StD D (GM.stf t ((GM.dn es.length es.length (Nat.le_refl _)).map fun i => es[i])) ∧ m ≤ 1000001 ∧ w.heap.size ≤ B ∧ Below w.heap.size w w' := by
  have hy := heap_alloc_new w (.cells #[.slice na nl nc, .slice xa xl xc] 31)
  have b1 := below_fresh w (.cells #[.slice na nl nc, .slice xa xl xc] 31)
  obtain ⟨w1, hw1⟩ : ∃ z, w.alloc (.cells #[.slice na nl nc, .slice xa xl xc] 31) = z := ⟨_, rfl⟩
  have hs1 : w1.heap.size = w.heap.size + 1 := by rw [← hw1]; simp
  rw [hw1] at hy b1
  have HY := Lib.hid hy
  have HB1 := Lib.hid b1
  have HW1 := Lib.hid hw1
  have HS1 := Lib.hid hs1
  have HE := Lib.hid h
  have HES := Lib.hid hes
  clear hy b1 hw1 hs1 h hes
  have hmade := World.ownsMap_made (H := Unit) (w.alloc (.cells #[.slice na nl nc, .slice xa xl xc] 31)) Tryz.prog 3 (plainElem Tryz.prog 3)
  rw [World.size_alloc] at hmade
  have hkt := keyN t ht
  have hmm := @run_makeMap Tryz.prog
  have htw : (Lit.int .i64 (t : Int)).wf = true := WalkArith.wf_i64 (by omega)
  refine callsIn_of_wp_marks Tryz.func54 rfl trivial ?_ rfl
  simp only [Tryz.ntmps54, List.size_toArray, List.length_cons, List.length_nil, Nat.reduceAdd, Nat.reduceSub, Array.replicate_succ, Array.replicate_zero, List.push_toArray, List.append_toArray, List.nil_append, List.cons_append]
  gi_wp2_with (first
    | (refine wpListIn_insert_own _ rfl _ _ _ 85 rfl 3 3 lawK Tryz.underlying85 _ _ 0 _ rfl hmade (by unfold maxLen; decide) _ _ _ rfl rfl hkt _ [] (plainElem_int Tryz.underlying3 htw) ?_; intro w3 hown3 hgrow3; rw [HW1.out] at hgrow3; have hb3 : Below w1.heap.size w1 w3 := (below_fresh w1 (.map #[] 0)).grown hgrow3 (by simp) (fun j hj => by cases hj; rw [HS1.out]; exact Nat.le_refl _); have hb4 := bnext hb3 (below_fresh w3 (.cells #[.map (some (w.heap.size + 1))] 85)); have hy4 := below_block HY.out hb4; obtain ⟨⟨_, c1⟩, _⟩ := row2F hy4; have HB3 := Lib.hid hb3; clear hb3 hb4 hy4; obtain ⟨B, hB⟩ : ∃ B, B = w.heap.size + 1 := ⟨_, rfl⟩; rw [← hB] at hown3 hgrow3 c1 ⊢; have HO3 := Lib.hid hown3; have HG3 := Lib.hid hgrow3; have HBB := Lib.hid hB; clear hown3 hgrow3 hB hmm hmade hkt htw)
    | gi_in)
  refine ⟨trivial, (back_in Fence.wide 8 trivial rfl xa xl xc _).mono ?_⟩
  rintro e w' ⟨rfl, rfl⟩
  have hx4 := heap_alloc_new w3 (.cells #[.map (some B)] 85)
  have b4 := below_fresh w3 (.cells #[.map (some B)] 85)
  obtain ⟨w4, hw4⟩ : ∃ z, w3.alloc (.cells #[.map (some B)] 85) = z := ⟨_, rfl⟩
  have hs4 : w4.heap.size = w3.heap.size + 1 := by rw [← hw4]; simp
  rw [hw4] at hx4 b4 c1 ⊢
  have hx5 := heap_alloc_new w4 (.cells #[.slice xa xl xc] 29)
  have b5 := below_fresh w4 (.cells #[.slice xa xl xc] 29)
  obtain ⟨w5, hw5⟩ : ∃ z, w4.alloc (.cells #[.slice xa xl xc] 29) = z := ⟨_, rfl⟩
  have hs5 : w5.heap.size = w4.heap.size + 1 := by rw [← hw5]; simp
  rw [hw5] at hx5 b5 ⊢
  have HX4 := Lib.hid (below_block hx4 b5)
  have HX5 := Lib.hid hx5
  have HB5 := Lib.hid (bnext HB1.out (bnext HB3.out (bnext b4 b5)))
  have HO5 := Lib.hid (map_below (map_below HO3.out b4) b5)
  have HS5 := Lib.hid (show w5.heap.size = w3.heap.size + 2 by rw [hs5, hs4])
  clear hx4 b4 hw4 hx5 b5 hw5 c1
  obtain ⟨bx, hbx⟩ : ∃ bx, bx = w3.heap.size := ⟨_, rfl⟩
  obtain ⟨bs, hbs⟩ : ∃ bs, bs = w4.heap.size := ⟨_, rfl⟩
  have HS4 := Lib.hid hs4
  have HBX := Lib.hid hbx
  have HBS := Lib.hid hbs
  rw [← hbx, ← hbs]
  replace HX4 := Lib.hid (show w5.heap[bx]? = some (.cells #[.map (some B)] 85 (0, 0)) by rw [HBX.out]; exact HX4.out)
  replace HX5 := Lib.hid (show w5.heap[bs]? = some (.cells #[.slice xa xl xc] 29 (0, 0)) by rw [HBS.out]; exact HX5.out)
  clear hs4 hbx hbs hs5
  have hB5 : B < w5.heap.size := HO5.out.lt
  have hbB : B < bx := by rw [HBX.out]; exact HO3.out.lt
  have hbs5 : bs < w5.heap.size := by rw [HS5.out, HBS.out, HS4.out]; omega
  have hst0 := StD.start t
  have hseq : SeqStopsK Fence.wide 8 Tryz.prog 87 #[.pointer (some ⟨bs, 0, none⟩)] (encB es) (KeepB B w5.heap.size) (fun ys => ys = GM.dn es.length es.length (Nat.le_refl _)) (fun _ => True) es.length w5 := fun l J Jx W hW _ _ hY h0 => by
    obtain ⟨ms, ck, hm, _⟩ := map_below HO5.out hW
    exact back1_in Fence.wide 8 trivial rfl (by omega) l bs B w5.heap.size _ es hl J Jx hY W (fun W' hk => keepB_cell hk hm hbs5 (cell_of_one (below_block HX5.out hW))) (fun W' hk => rdE_keepB (HE.out.below HB5.out) hW hk hm) h0
  have HST0 := Lib.hid hst0
  clear hst0
  gi_wp2
  refine wpIn_rangeFunc_ownH rfl (by omega) (gf := 87) (lb := #[.pointer (some ⟨bs, 0, none⟩)]) rfl trivial (enters_of Tryz.func87 (by kernel_rfl) rfl)
    hseq keepB_t (keepB_b (Nat.le_refl _)) (Below.refl _ _) (fun _ => rfl)
    (Ifs es t B w5) (fun _ _ _ => False) (ifs_from es t B w5 hB5) (fun _ _ _ _ _ hs _ _ => hs)
    ⟨_, _, HO5.out, HST0.out, by simp, OnlyB.refl _ _⟩
    (fun x a' W => ∃ g, w5.heap.size ≤ g ∧ W.heap[g]? = some (.cells #[.int .i64 ((es.get x).1 : Int), .int .i64 ((es.get x).2 : Int)] 69 (0, 0)) ∧ a' = { tmps := #[.agg #[.slice na nl nc, .slice xa xl xc], .int .i64 (t : Int), .pointer (some ⟨w.heap.size, 0, none⟩), undef, .map none, .pointer (some ⟨bx, 0, none⟩), undef, .pointer (some ⟨g, 0, none⟩), undef, undef, .map (some B), .int .i64 (t : Int), .int .i64 (t : Int), .map (some B), .pointer (some ⟨w.heap.size, 1, none⟩), .slice xa xl xc, .func (.func 87) #[] #[.pointer (some ⟨bs, 0, none⟩)], .int .i64 (x.val : Int), .agg #[.int .i64 ((es.get x).1 : Int), .int .i64 ((es.get x).2 : Int)], undef, undef, undef, undef, undef, undef, undef, undef, undef, undef, undef, undef, undef, undef], defers := [] }) ?hAx ?assign ?body ?done ?stop
  case hAx =>
    rintro x a' _ W W' row ⟨g, h1, h2, h3⟩ hg hr
    refine ⟨g, h1, (hg.block g (Array.getElem?_eq_some_iff.1 h2).1 (fun e => ?_)).trans h2, h3⟩
    obtain ⟨_, o, ho, hc⟩ := hr g e.symm
    rw [h2] at ho
    cases ho
    cases hc
  case assign =>
    intro l pre x W K hI hK
    have hws : w5.heap.size ≤ W.heap.size := by obtain ⟨_, _, _, _, _, h⟩ := hI; exact h.2.2.2.1
    have hI2 := ifs_from es t B w5 hB5 pre W _ none hI (World.grownBy_alloc W (.cells #[.int .i64 ((es.get x).1 : Int), .int .i64 ((es.get x).2 : Int)] 69) none) (fun r e => by cases e)
    have hx := heap_alloc_new W (.cells #[.int .i64 ((es.get x).1 : Int), .int .i64 ((es.get x).2 : Int)] 69)
    have hkf : KeepsFrom w5.heap.size W (W.alloc (.cells #[.int .i64 ((es.get x).1 : Int), .int .i64 ((es.get x).2 : Int)] 69)) := (KeepsOthers.alloc _ _).from _
    have hkb : KeepB B w5.heap.size W (W.alloc (.cells #[.int .i64 ((es.get x).1 : Int), .int .i64 ((es.get x).2 : Int)] 69)) := by
      have hg := World.grownBy_alloc W (.cells #[.int .i64 ((es.get x).1 : Int), .int .i64 ((es.get x).2 : Int)] 69) none
      exact ⟨hg.size, fun k hk _ => hg.block k (by omega) (by simp)⟩
    have HKK := Lib.hid (fun a' ha => hK a' _ hkf hkb hI2 ⟨W.heap.size, hws, hx, ha⟩)
    clear hK hkf hkb hI2 hx hI hws
    unfold encB
    obtain ⟨f1, hf1⟩ : ∃ f1, f1 = (es.get x).1 := ⟨_, rfl⟩
    obtain ⟨f2, hf2⟩ : ∃ f2, f2 = (es.get x).2 := ⟨_, rfl⟩
    rw [← hf1, ← hf2] at HKK ⊢
    clear hf1 hf2
    gi_wp2
    exact HKK.out _ rfl
  case body =>
    rintro l pre x a' W hl ⟨r, hlr⟩ ⟨D, m, hown, hst, hm, hob⟩ ⟨g, hgs, hg, rfl⟩ hlen
    have c5 := cell_of_one (hob.at_ HX4.out (by omega))
    obtain ⟨⟨q0, q1⟩, _⟩ := row2F hg
    obtain ⟨e1, e2⟩ := HES.out (es.get x) (List.get_mem es x)
    have HSN := Lib.hid (show GM.stf t ((pre ++ [x]).map fun i => es[i]) = GM.stU (GM.stf t (pre.map fun i => es[i])) (es.get x) by
      rw [List.map_append, List.map_cons, List.map_nil, GM.stf_snoc]; rfl)
    unfold GM.stU at HSN
    obtain ⟨f1, hf1⟩ : ∃ f1, f1 = (es.get x).1 := ⟨_, rfl⟩
    obtain ⟨f2, hf2⟩ : ∃ f2, f2 = (es.get x).2 := ⟨_, rfl⟩
    rw [← hf1, ← hf2] at HSN ⊢
    rw [← hf1] at q0 e1
    rw [← hf2] at q1 e2
    clear hf1 hf2 hg
    have hkx := keyN f1 e1
    have hky := keyN f2 e2
    have hwy : (Lit.int .i64 (f2 : Int)).wf = true := WalkArith.wf_i64 (by omega)
    have hmx : m < maxLen := by unfold maxLen; omega
    have hplen : (pre ++ [x]).length = pre.length + 1 := by simp
    have HST := Lib.hid hst
    have HOB := Lib.hid hob
    have HOW := Lib.hid hown
    have HPL := Lib.hid hplen
    have hhas := hst.has f2
    clear hst hob hown hplen
    cases hsn : (GM.stf t (pre.map fun i => es[i]) f2).isSome with
    | true =>
      rw [hsn] at hhas
      have HSN2 := HSN.out
      rw [if_pos hsn] at HSN2
      have HSN3 := Lib.hid HSN2
      have HHS := Lib.hid hhas
      clear HSN HSN2 hsn hhas
      gi_wp2_with (first
        | (gi_at_lookup; refine wpListIn_lookup_own_ok_int _ rfl _ _ 85 rfl 3 3 .i64 lawK Tryz.underlying85 Tryz.underlying3 (zeroI _) B m D rfl HOW.out _ _ rfl hky ?_; intro c hat hwc; rw [HHS.out])
        | (gi_at_mapUpdate; refine wpListIn_mapUpdate_own _ rfl _ _ _ 85 rfl 3 3 lawK Tryz.underlying85 _ B m D rfl HOW.out hmx _ _ _ rfl rfl hkx _ [] (plainElem_int Tryz.underlying3 hwy) ?_; intro w7 hown7 hgrow7)
        | gi_in)
      exact ⟨KeepsFrom.of_grownBy hgrow7 (fun j hj => by cases hj; exact hB5), ⟨hgrow7.size, fun k hk hne => hgrow7.block k (by have := HOB.out.2.2.2.1; omega) (by intro e; cases e; exact hne rfl)⟩, _, _, hown7, by rw [HSN3.out]; exact HST.out.put f1 f2, by rw [HPL.out]; omega, HOB.out.grown hgrow7⟩
    | false =>
      rw [hsn] at hhas
      have HSN2 := HSN.out
      rw [if_neg (by rw [hsn]; decide)] at HSN2
      have HSN3 := Lib.hid HSN2
      have HHS := Lib.hid hhas
      clear HSN HSN2 hsn hhas
      gi_wp2_with (first
        | (gi_at_lookup; refine wpListIn_lookup_own_ok_int _ rfl _ _ 85 rfl 3 3 .i64 lawK Tryz.underlying85 Tryz.underlying3 (zeroI _) B m D rfl HOW.out _ _ rfl hky ?_; intro c hat hwc; rw [HHS.out])
        | gi_in)
      exact ⟨KeepsFrom.refl _ _, KeepB.refl _ _ _, _, _, HOW.out, by rw [HSN3.out]; exact HST.out, by rw [HPL.out]; omega, HOB.out⟩
  case done =>
    rintro Dd xs W hDd rfl ⟨D, m, hown, hst, hm, hob⟩ hK
    have c5 := cell_of_one (hob.at_ HX4.out (by omega))
    have hsz := hob.2.2.2.1
    have hdl : Dd < W.heap.size := (Array.getElem?_eq_some_iff.1 hK).1
    have HOW := Lib.hid (hown.kept (grownBy_putObj' W Dd (.deferred none)) (by intro e; cases e; omega))
    have hwB : w.heap.size ≤ B := by have := HBB.out; omega
    have HBW := Lib.hid ((HB5.out.trans (hob.below hwB HB5.out.size)).trans (belowK_b (w := w5) HB5.out.size W Dd _ (.deferred none) hDd hK rfl rfl))
    have HST := Lib.hid hst
    rw [GM.dn_len] at hm
    clear hob hown hst
    gi_wp2
    refine ⟨by simp, .inl ⟨_, _, rfl, run_takeDeferred hK, ?_⟩⟩
    exact ⟨_, results_tmp rfl _ _ _, B, m, D, rfl, HOW.out, HST.out, by omega, hwB, HBW.out⟩
  case stop =>
    rintro D c pre W _ _ h _
    exact h.elim

end Go.Proofs.YtkgkhofkhjgnbaaGreat
