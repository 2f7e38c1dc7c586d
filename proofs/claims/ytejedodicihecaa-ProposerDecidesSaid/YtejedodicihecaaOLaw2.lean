/-
  The call of the law ProposerDecides: it returns true. Conditions: what comes in reads; the contracts of package proposer hold. (Written by mk_olaw2.py.)
-/
import Derived.Deep.RegionHeld3
import Derived.Test.YtejedodicihecaaOAwk
import Derived.Test.YtejedodicihecaaReg
namespace Go.Proofs.Ytejedodicihecaa
open Go.RowKit
open VM (Ent)

def encU (x : Int) : List Value := [.int .u8 x]
theorem u8E : IsElem Try.prog 44 5 1 1 encU where
  ht := Try.underlying44
  info := by
    obtain ⟨i0, hi, hz0, hz1, hz2⟩ := info_parts (show (Try.prog.info? 5).map (fun i => (i.zero, i.size, i.bytes)) = some (some (.int .u8 0), 1, 1) by kernel_rfl)
    exact ⟨i0, _, hi, hz0, hz1, hz2, rfl⟩
  len := fun _ => rfl
  one := by intro x u hu; simp [encU] at hu; subst hu; rfl
  pos := by decide
  fits := by decide
theorem hlU : 0 < 1 ∧ ∀ x, (encU x).length = 1 := ⟨by decide, fun _ => rfl⟩
abbrev RdU := RdG encU 1
theorem atU {w : World} {a : Option Addr} {n c : Nat} {xs : List Int} (h : RdU w (.slice a n c) xs) (k : Nat) (x : Int) (hk : xs[k]? = some x) :
    ∃ b o, (∀ w0, (Instr.indexAt 44 (.slice a n c) (.int .i64 (k : Int))).run Try.prog w0 = .ok (.pointer (some ⟨b, o, none⟩)) w0) ∧ b < w.heap.size ∧ w.cell? ⟨b, o, none⟩ = some (.int .u8 x) := by
  obtain ⟨b, o, h1, h2, h3⟩ := h.at_ u8E k x hk
  exact ⟨b, o, h1, h2, h3 0 _ rfl⟩

/-- The array of those that have been seen. -/
def SeenB (w : World) (g : Nat) (sb : List Bool) : Prop := w.heap[g]? = some (.cells (sb.map Value.bool).toArray 45 (0, 0))
theorem SeenB.below {w w' : World} {g : Nat} {sb : List Bool} (h : SeenB w g sb) (hb : Below w.heap.size w w') : SeenB w' g sb := below_blk h hb
theorem SeenB.only {w w' : World} {g k : Nat} {sb : List Bool} (h : SeenB w g sb) (ho : Only k w w') (hne : g ≠ k) : SeenB w' g sb := ho.at h hne
theorem SeenB.cell {w : World} {g : Nat} {sb : List Bool} (h : SeenB w g sb) {a : Nat} (ha : a < sb.length) : w.cell? ⟨g, a, none⟩ = some (.bool (sb.getD a false)) := by
  unfold SeenB at h
  simp [World.cell?, h, List.getD_eq_getElem?_getD, List.getElem?_eq_getElem ha]
theorem SeenB.put {w : World} {g : Nat} {sb : List Bool} (h : SeenB w g sb) (a : Nat) (b : Bool) : SeenB (w.setCell ⟨g, a, none⟩ (.bool b)) g (sb.set a b) := by
  unfold SeenB at h ⊢
  rw [row_set h a (.bool b)]
  simp [List.map_set]
theorem arr_at (g a : Nat) (ha : a < 12) (w : World) : (Instr.indexAt 45 (.pointer (some ⟨g, 0, none⟩)) (.int .i64 (a : Int))).run Try.prog w = .ok (.pointer (some ⟨g, a, none⟩)) w := by
  have h1 : (0 : Int) ≤ (a : Int) := by omega
  obtain ⟨i0, hi, hz0, hz1, hz2⟩ := info_parts (show (Try.prog.info? 4).map (fun i => (i.zero, i.size, i.bytes)) = some (some (.bool false), 1, 1) by kernel_rfl)
  simp [Instr.indexAt, asIntOf, run_underlying Try.underlying45, h1, Result.andThen, Go.sizeOf, typeInfo, hi, hz1, addr_plain, Instr.sureAddr]
  intro h3
  omega
theorem rep12 : ∀ a : Nat, a < 12 → (List.replicate 12 false).getD a false = false := by decide
/-- What is known of the proposer and of those that have been seen. -/
structure Dv (N : Int) (acks : List Int) (dec : Bool) (sb : List Bool) (c : Nat) : Prop where
  asc : acks.Pairwise (· < ·)
  mem : ∀ a ∈ acks, 0 ≤ a ∧ a < N
  len : acks.length = c
  dec : dec = decide (N < 2 * (c : Int))
  sl : sb.length = 12
  seen : ∀ a : Nat, a < 12 → (sb.getD a false = true ↔ (a : Int) ∈ acks)
def StepR (N : Int) (sb : List Bool) (c A c' : Nat) (sb' : List Bool) : Prop := (sb.getD A false = false ∧ 2 * (c : Int) ≤ N ∧ c' = c + 1 ∧ sb' = sb.set A true) ∨ (¬ (sb.getD A false = false ∧ 2 * (c : Int) ≤ N) ∧ c' = c ∧ sb' = sb)
theorem dv_step {N : Int} {xs : List Ent} {acks : List Int} {dec : Bool} {sb sb' : List Bool} {c c' A : Nat} (h : Dv N acks dec sb c) (hN : N ≤ 12) (hA : (A : Int) < N) (hx : VM.Val 0 xs) (hs : StepR N sb c A c' sb') :
    ∃ acks' dec', PM.rcv ⟨N, xs, 1, acks, dec⟩ A 1 xs = (⟨N, xs, 1, acks', dec'⟩, false) ∧ Dv N acks' dec' sb' c' := by
  have hle : VM.le xs xs = true := (VM.le_iff hx hx).2 fun _ => Int.le_refl _
  have hd := h.dec
  by_cases h2 : N < 2 * (c : Int)
  · rw [decide_eq_true h2] at hd
    subst hd
    rcases hs with ⟨_, h3, _⟩ | ⟨_, rfl, rfl⟩
    · omega
    · exact ⟨acks, true, PM.rcv_off (.inl rfl), { h with dec := (decide_eq_true h2).symm }⟩
  · rw [decide_eq_false h2] at hd
    subst hd
    have hon : ¬ ((PM.Ps.mk N xs 1 acks false).dec = true ∨ (1 : Int) ≠ (PM.Ps.mk N xs 1 acks false).round ∨ (A : Int) < 0 ∨ (PM.Ps.mk N xs 1 acks false).acc ≤ (A : Int)) := by
      simp only [Bool.false_eq_true, false_or]
      show ¬ ((1 : Int) ≠ 1 ∨ (A : Int) < 0 ∨ N ≤ (A : Int))
      omega
    refine ⟨PM.ins A acks, _, PM.rcv_ack hon hle, ?_⟩
    rcases hs with ⟨h3, _, rfl, rfl⟩ | ⟨h3, rfl, rfl⟩
    · have hn : (A : Int) ∉ acks := fun hm => by rw [(h.seen A (by omega)).2 hm] at h3; cases h3
      have hl := PM.ins_new hn
      refine ⟨PM.ins_asc h.asc, fun a ha => ?_, by rw [hl, h.len], by show decide (N < 2 * ((PM.ins (A : Int) acks).length : Int)) = _; rw [hl, h.len], by rw [List.length_set, h.sl], fun a ha => ?_⟩
      · rcases PM.ins_mem.1 ha with rfl | ha
        · omega
        · exact h.mem a ha
      · rw [PM.ins_mem, List.getD_eq_getElem?_getD, List.getElem?_set]
        by_cases hq : A = a
        · subst hq
          rw [if_pos rfl, if_pos (by rw [h.sl]; omega)]
          simp
        · rw [if_neg hq, ← List.getD_eq_getElem?_getD, h.seen a ha]
          constructor
          · exact .inr
          · rintro (hq2 | hq2)
            · omega
            · exact hq2
    · have hm : (A : Int) ∈ acks := (h.seen A (by omega)).1 (by cases hb : sb'.getD A false with | true => rfl | false => exact absurd ⟨hb, by omega⟩ h3)
      have hi := PM.ins_old h.asc hm
      exact ⟨by rw [hi]; exact h.asc, by rw [hi]; exact h.mem, by rw [hi]; exact h.len, by show decide (N < 2 * ((PM.ins (A : Int) acks).length : Int)) = _; rw [hi, h.len], h.sl, by rw [hi]; exact h.seen⟩

set_option maxRecDepth 100000 in
set_option maxHeartbeats 4000000 in
theorem lProposerDecides (ct : PT) (n : Int) (v u : Value) (xs : List Ent) (l : List Int) (w : World) (hn0 : 0 ≤ n) (hn1 : n ≤ 255) (hv : VX.RdV w v xs) (hl : RdU w u l) (hlb : ∀ x ∈ l, 0 ≤ x ∧ x ≤ 255) :
    Calls Try.prog 4 #[.int .u8 n, v, u] w fun e w' => e = .returned (.bool true) ∧ Below w.heap.size w w' := by
  have HLB := Lib.hid hlb
  clear hlb
  obtain ⟨va, vc, rfl, _, _⟩ := hv.shape
  obtain ⟨la, lc, rfl, _, _⟩ := hl.shape
  have HV := Lib.hid hv
  have HL := Lib.hid hl
  have HB := Lib.hid (Below.refl w.heap.size w)
  have hE := VX.rValidate _ xs w hv
  obtain ⟨E, hEE⟩ : ∃ E, E = VM.err 0 xs := ⟨_, rfl⟩
  rw [← hEE] at hE
  have HE := Lib.hid hE
  have HEE := Lib.hid hEE
  clear hv hl hE hEE
  go_enter Try.func4, Try.ntmps4
  by_cases h20 : 20 < xs.length
  · have h20i : (20 : Int) < (xs.length : Int) := by omega
    have HQ := Lib.hid (cAwake16 ct w)
    go_wp2_with fail
    refine HQ.out.mono ?_
    rintro e w9 ⟨rfl, hb9⟩
    replace HB := Lib.hid (bnext HB.out hb9)
    clear hb9 HQ
    go_wp2
    go_ret
    exact ⟨rfl, HB.out⟩
  have h20i : ¬ ((20 : Int) < (xs.length : Int)) := by omega
  by_cases h0 : E = 0
  case neg =>
    have hne : (E != 0) = true := bneT h0
    go_wp2_with fail
    refine HE.out.mono ?_
    rintro e w1 ⟨rfl, hb1⟩
    replace HB := Lib.hid (bnext HB.out hb1)
    clear HE hb1
    have HQ := Lib.hid (cAwake16 ct w1)
    go_wp2_with fail
    refine HQ.out.mono ?_
    rintro e w9 ⟨rfl, hb9⟩
    replace HB := Lib.hid (bnext HB.out hb9)
    clear hb9 HQ
    go_wp2
    go_ret
    exact ⟨rfl, HB.out⟩
  subst h0
  have hx : VM.Val 0 xs := (VM.err_val (Int.le_refl 0)).1 HEE.out.symm
  have HX := Lib.hid hx
  have HXL := Lib.hid (show xs.length ≤ 20 by omega)
  by_cases h60 : 60 < l.length
  · have h60i : (60 : Int) < (l.length : Int) := by omega
    go_wp2_with fail
    refine HE.out.mono ?_
    rintro e w1 ⟨rfl, hb1⟩
    replace HB := Lib.hid (bnext HB.out hb1)
    replace HV := Lib.hid (HV.out.below hb1)
    replace HL := Lib.hid (HL.out.below hb1)
    clear HE hb1 hx HEE
    have HQ := Lib.hid (cAwake16 ct w1)
    go_wp2_with fail
    refine HQ.out.mono ?_
    rintro e w9 ⟨rfl, hb9⟩
    replace HB := Lib.hid (bnext HB.out hb9)
    clear hb9 HQ
    go_wp2
    go_ret
    exact ⟨rfl, HB.out⟩
  have h60i : ¬ ((60 : Int) < (l.length : Int)) := by omega
  go_wp2_with fail
  refine HE.out.mono ?_
  rintro e w1 ⟨rfl, hb1⟩
  replace HB := Lib.hid (bnext HB.out hb1)
  replace HV := Lib.hid (HV.out.below hb1)
  replace HL := Lib.hid (HL.out.below hb1)
  clear HE hb1 hx HEE
  have hN : 1 ≤ 1 + n % 12 ∧ 1 + n % 12 ≤ 12 := by omega
  have HQ := Lib.hid (ct.new _ (1 + n % 12) _ _ w1 (fun _ h => h.elim) (offNV HV.out) HX.out (by have := HXL.out; omega) hN.1 hN.2)
  go_wp2_with fail
  refine HQ.out.mono ?_
  rintro e w3 ⟨p3, rfl, hp3, hb3⟩
  obtain ⟨ua, uc, ka, kc, rfl, _, _⟩ := hp3.rd.shape
  replace HB := Lib.hid (bnext HB.out hb3)
  replace HV := Lib.hid (HV.out.below hb3)
  replace HL := Lib.hid (HL.out.below hb3)
  have HP3 := Lib.hid hp3.rd
  clear hp3 hb3 HQ
  simp only at HP3
  obtain ⟨N, hNN⟩ : ∃ N, Hid (1 + n % 12 = N) := ⟨_, Lib.hid rfl⟩
  rw [hNN.out] at HP3 hN
  obtain ⟨ws, hws, hA, hbs, hss⟩ := oneP 31 w3 (.int .i64 N) (.slice ua xs.length uc) (.int .i64 1) (.slice ka 0 kc) (.bool false)
  have hZ := heap_alloc_new ws (.cells #[.bool false, .bool false, .bool false, .bool false, .bool false, .bool false, .bool false, .bool false, .bool false, .bool false, .bool false, .bool false] 45)
  have hbt := below_fresh ws (.cells #[.bool false, .bool false, .bool false, .bool false, .bool false, .bool false, .bool false, .bool false, .bool false, .bool false, .bool false, .bool false] 45)
  obtain ⟨wt, hwt⟩ : ∃ wt, ws.alloc (.cells #[.bool false, .bool false, .bool false, .bool false, .bool false, .bool false, .bool false, .bool false, .bool false, .bool false, .bool false, .bool false] 45) = wt := ⟨_, rfl⟩
  rw [hwt] at hZ hbt
  rw [hss] at hZ
  have hb4 := bnext hbs hbt
  have HBt := Lib.hid hb4
  have HW := Lib.hid (show (w3.alloc (.cells #[.int .i64 N, .slice ua xs.length uc, .int .i64 1, .slice ka 0 kc, .bool false] 31)).alloc (.cells #[.bool false, .bool false, .bool false, .bool false, .bool false, .bool false, .bool false, .bool false, .bool false, .bool false, .bool false, .bool false] 45) = wt by rw [hws, hwt])
  have HX8 := Lib.hid (show PrB 31 wt w3.heap.size (.agg #[.int .i64 N, .slice ua xs.length uc, .int .i64 1, .slice ka 0 kc, .bool false]) from ⟨_, _, _, _, _, rfl, below_blk hA hbt⟩)
  have HX9 := Lib.hid (show SeenB wt (w3.heap.size + 1) (List.replicate 12 false) from hZ)
  have HP8 := Lib.hid (prO_old (G := Two w3.heap.size) HP3.out hb4 Two.ge)
  have HDV := Lib.hid (show Dv N [] false (List.replicate 12 false) 0 from ⟨List.Pairwise.nil, (fun _ h => by cases h), rfl, by have := hN.1; exact (decide_eq_false (by omega)).symm, rfl, fun a ha => by rw [rep12 a ha]; simp⟩)
  clear hws hA hbs hss hwt hZ hbt hb4 HP3
  go_upto_region 6 with fail
  rw [hNN.out, HW.out]
  clear HW
  go_wp2
  go_loopw [10, 11] (fun cn i wr => ∃ (k c : Nat) (acks : List Int) (dec : Bool) (sb : List Bool) (pv : Value), k ≤ l.length ∧ cn = .int .i64 c ∧ i = .int .i64 k ∧ Hid (Below w3.heap.size w3 wr) ∧ Hid (PrB 31 wr w3.heap.size pv) ∧ Hid (SeenB wr (w3.heap.size + 1) sb) ∧ Hid (PrO (Two w3.heap.size) wr pv ⟨N, xs, 1, acks, dec⟩) ∧ Hid (Dv N acks dec sb c)) (fun _ i _ => l.length - (intOf i).toNat)
  case atStart => exact ⟨0, 0, [], false, _, _, Nat.zero_le _, rfl, rfl, HBt, HX8, HX9, HP8, HDV⟩
  case round =>
    obtain ⟨k, c, acks, dec, sb, pv, hk, rfl, rfl, hbl, hpb, hsb, hpo, hdv⟩ := hrel
    clear HX8 HX9 HP8 HDV HBt
    obtain ⟨pa, pb, pc, pd, rfl, _, _⟩ := hpo.out.parts
    simp only at hpb hpo
    by_cases hlt : k < l.length
    · have hq : (k : Int) < (l.length : Int) := by omega
      have hk2 := List.getElem?_eq_getElem hlt
      generalize l[k] = y at hk2
      have hy := HLB.out y (List.mem_of_getElem? hk2)
      obtain ⟨b, o, hi, hbw, e0⟩ := atU (HL.out.below hbl.out) k y hk2
      have hN0 : (N == 0) = false := beqF (by omega)
      obtain ⟨A, hA⟩ : ∃ A : Nat, (A : Int) = y % N := ⟨(y % N).toNat, by have := Int.emod_nonneg y (show N ≠ 0 by omega); omega⟩
      have hAN : (A : Int) < N := by rw [hA]; exact Int.emod_lt_of_pos y (by omega)
      have hA12 : A < 12 := by omega
      have HA := Lib.hid hA
      clear hA hk2
      go_upto_region 11 with fail
      rw [← HA.out]
      have hix := arr_at (w3.heap.size + 1) A hA12
      have s0 := hsb.out.cell (a := A) (by rw [hdv.out.sl]; exact hA12)
      have hc24 : 2 * (c : Int) ≤ 24 := by have := PM.asc_len hdv.out.asc hdv.out.mem (by omega); rw [hdv.out.len] at this; omega
      have hg9 := unfz hsb.out A
      clear e0 hi hN0 hy
      obtain ⟨S, hS⟩ : ∃ S, Hid (sb.getD A false = S) := ⟨_, Lib.hid rfl⟩
      rw [hS.out] at s0
      go_cut [58] from 49 to 58 (fun p58 wx => ∃ B : Bool, p58 = .bool B ∧ (B = true ↔ (S = false ∧ 2 * (c : Int) ≤ N)) ∧ wx = wr)
      case first =>
        cases S
        · by_cases h2 : 2 * (c : Int) ≤ N
          · go_wp2
            go_meet
            exact ⟨_, rfl, by simp [h2], rfl⟩
          · go_wp2
            go_meet
            exact ⟨_, rfl, by simp [h2], rfl⟩
        · go_wp2
          go_meet
          exact ⟨_, rfl, by simp, rfl⟩
      case rest =>
        obtain ⟨B, rfl, hB, hwx⟩ := hcut
        obtain rfl : wr = _ := hwx.symm
        go_upto_if 58 with fail
        go_cut [10] from 59 to 62 (fun p10 wx => ∃ (wy : World) (c' : Nat) (sb' : List Bool), wy = wx ∧ p10 = .int .i64 c' ∧ Hid (Below w3.heap.size w3 wx) ∧ Hid (PrB 31 wx w3.heap.size (.agg #[.int .i64 N, .slice pa xs.length pb, .int .i64 1, .slice pc acks.length pd, .bool dec])) ∧ Hid (SeenB wx (w3.heap.size + 1) sb') ∧ Hid (PrO (Two w3.heap.size) wx (.agg #[.int .i64 N, .slice pa xs.length pb, .int .i64 1, .slice pc acks.length pd, .bool dec]) ⟨N, xs, 1, acks, dec⟩) ∧ Hid (StepR N sb c A c' sb'))
        case first =>
          cases B
          · go_wp2
            go_meet
            exact ⟨_, c, sb, rfl, rfl, hbl, hpb, hsb, hpo, Lib.hid (.inr ⟨by rw [hS.out]; exact fun h => Bool.noConfusion (hB.2 h), rfl, rfl⟩)⟩
          · have hst := hB.1 rfl
            have hon : Only (w3.heap.size + 1) wr (wr.setCell ⟨w3.heap.size + 1, A, none⟩ (.bool true)) := Only.set A _
            have hsb2 := hsb.out.put A true
            go_wp2
            go_meet
            exact ⟨_, c + 1, sb.set A true, rfl, by go_num, Lib.hid (seen hbl.out (by omega) hon), Lib.hid (hpb.out.only hon (by omega)), Lib.hid hsb2, Lib.hid (hpo.out.only hon (.inr rfl)), Lib.hid (.inl ⟨by rw [hS.out]; exact hst.1, hst.2, rfl, rfl⟩)⟩
        case rest =>
          obtain ⟨wy, c', sb', rfl, rfl, hbl2, hpb2, hsb2, hpo2, hstep⟩ := hcut
          obtain ⟨acks', dec', hr, hdv2⟩ := dv_step (xs := xs) hdv.out (by omega) hAN HX.out hstep.out
          have hA := hpb2.out.cells
          have hsz : w3.heap.size + 2 ≤ wy.heap.size := by have := (Array.getElem?_eq_some_iff.1 hsb2.out).1; omega
          have hc := ct.recv (Two w3.heap.size) _ (.slice va xs.length vc) ⟨N, xs, 1, acks, dec⟩ A 1 xs wy (Two.lt hsz) hpo2.out (off_oldV HV.out hbl2.out Two.ge) ⟨hN.1, hN.2, HX.out, hdv.out.asc, hdv.out.mem⟩ HX.out (by have := HXL.out; show xs.length ≤ _; omega) (by have := HXL.out; omega) (by show (0 : Int) ≤ 1; decide) (by show (1 : Int) ≤ 1000000; decide)
          rw [hr] at hc
          have HC := Lib.hid hc
          have HDV := Lib.hid hdv2
          obtain ⟨c0, c1, c2, c3, c4⟩ := five hA
          have HA2 := Lib.hid hA
          clear hc hr hdv2 hstep hdv hsb hpb hpo hbl hix s0 hg9 hB hA hpo2 hpb2 hS
          go_wp2_with fail
          refine HC.out.mono ?_
          rintro e w5 ⟨p5, rfl, hp5, hb5⟩
          obtain ⟨qa, qb, qc, qd, rfl, _, _⟩ := hp5.parts
          simp only at hp5
          have HBL := Lib.hid (bnext hbl2.out hb5)
          have HSB := Lib.hid (hsb2.out.below hb5)
          have HA5 := Lib.hid (below_blk HA2.out hb5)
          have HSZ := Lib.hid (Nat.le_trans hsz hb5.size)
          obtain ⟨w6, hw6, hX, hb6, -⟩ := oneP 31 w5 (.int .i64 N) (.slice qa xs.length qb) (.int .i64 1) (.slice qc acks'.length qd) (.bool dec')
          have HW := Lib.hid hw6
          have HX6 := Lib.hid hX
          have HBL6 := Lib.hid (bnext HBL.out hb6)
          have HSB6 := Lib.hid (HSB.out.below hb6)
          have HA6 := Lib.hid (below_blk HA5.out hb6)
          have HP6 := Lib.hid (hp5.below hb6)
          obtain ⟨g5, hg5⟩ : ∃ g, g = w5.heap.size := ⟨_, rfl⟩
          clear c0 c1 c2 c3 c4 HC HA2 hbl2 hsb2 hb5 hw6 hX hb6 hp5 HBL HSB HA5 HSZ hsz
          go_upto_region 15 with fail
          rw [HW.out, ← hg5]
          rw [← hg5] at HX6
          clear HW hg5
          have hra := HX6.out
          have hrz := HA6.out
          obtain ⟨c0, c1, c2, c3, c4⟩ := five hra
          have hlen : ((acks'.length : Int) != (c' : Int)) = false := by rw [HDV.out.len]; simp
          have hd := HDV.out.dec
          have hc64 : (c' : Int) ≤ 100 := by have := PM.asc_len HDV.out.asc HDV.out.mem (by omega); rw [HDV.out.len] at this; omega
          obtain ⟨w7, hw7⟩ : ∃ w7, w6.setRow w3.heap.size #[.int .i64 N, .slice qa xs.length qb, .int .i64 1, .slice qc acks'.length qd, .bool dec'] = w7 := ⟨_, rfl⟩
          have hon : Only w3.heap.size w6 w7 := by rw [← hw7]; exact onlyR _ _ _
          have HB7 := Lib.hid (seen HBL6.out (Nat.le_refl _) hon)
          have HX7 := Lib.hid (show PrB 31 w7 w3.heap.size (.agg #[.int .i64 N, .slice qa xs.length qb, .int .i64 1, .slice qc acks'.length qd, .bool dec']) from ⟨_, _, _, _, _, rfl, by rw [← hw7]; exact setRow_heap _ _ _ _ _ _ hrz⟩)
          have HSB7 := Lib.hid (HSB6.out.only hon (by omega))
          have HP7 := Lib.hid (HP6.out.only hon (.inl rfl))
          have HW := Lib.hid hw7
          have hcd : (dec' = true ↔ N < 2 * (c' : Int)) := by rw [hd]; simp
          clear hon hw7 hd HX6 HA6 HBL6 HSB6 HP6
          go_cut [86] from 70 to 86 (fun p86 wx => p86 = .bool false ∧ wx = w6)
          case first =>
            cases dec'
            · have h2 : ¬ (2 * (c' : Int) > N) := fun h => Bool.noConfusion (hcd.2 h)
              go_wp2
              go_meet
              exact ⟨rfl, rfl⟩
            · have h2 : 2 * (c' : Int) > N := hcd.1 rfl
              go_wp2
              go_meet
              exact ⟨rfl, rfl⟩
          case rest =>
            obtain ⟨rfl, hwx⟩ := hcut
            obtain rfl : w6 = _ := hwx.symm
            go_wp2_with (first
              | (refine wpList_load_row rfl 31 _ rfl g5 rfl 31 _ (0, 0) _ hra Try.underlying31 rfl (by kernel_rfl) ?_)
              | (refine wpList_store_row rfl 31 _ _ rfl w3.heap.size _ rfl rfl 31 _ hrz (by kernel_rfl) rfl (cells5 _ _ _ _ _ _ _ _ _) ?_))
            rw [HW.out]
            go_wp2
            go_roundw
            case rel => exact ⟨k + 1, c', acks', dec', sb', _, by omega, rfl, by go_num, HB7, HX7, HSB7, HP7, HDV⟩
            case measure => simp [intOf]; omega
    · have hq : ¬ ((k : Int) < (l.length : Int)) := by omega
      obtain rfl : k = l.length := by omega
      have hA := hpb.out.cells
      obtain ⟨c0, c1, c2, c3, c4⟩ := five hA
      have HS := Lib.hid (rEqV _ _ xs wr (by obtain ⟨u, kk, e, h3, _⟩ := hpo.out.rd; cases e; exact h3) (HV.out.below hbl.out))
      go_wp2_with fail
      refine HS.out.mono ?_
      rintro e w4 ⟨rfl, hb4⟩
      have HQ := Lib.hid (cAwake16 ct w4)
      have c2b := (five (below_blk hA hb4)).2.2.1
      replace HB := Lib.hid (bnext (bnext HB.out hbl.out) hb4)
      clear c0 c1 c2 c3 c4 hA hpb hsb hpo HS hb4 hbl hdv
      go_wp2_with fail
      refine HQ.out.mono ?_
      rintro e w5 ⟨rfl, hb5⟩
      replace HB := Lib.hid (bnext HB.out hb5)
      clear HQ hb5 c2b
      go_wp2
      go_ret
      exact ⟨rfl, HB.out⟩
end Go.Proofs.Ytejedodicihecaa
