/-
  The call of the law ProposerRounds: it returns true. Conditions: what comes in reads; the contracts of package proposer hold. (Written by mk_olaw2.py.)
-/
import Derived.Deep.RegionHeld3
import Derived.Test.YtejedodicihecaaOAwk
import Derived.Test.YtejedodicihecaaReg
namespace Go.Proofs.Ytejedodicihecaa
open Go.RowKit
open VM (Ent)

def One (g : Nat) (k : Nat) : Prop := k = g
theorem One.lt {g n : Nat} (h : g < n) : ∀ k, One g k → k < n := fun k hk => by rw [show k = g from hk]; exact h
theorem One.ge {g : Nat} : ∀ k, One g k → g ≤ k := fun k hk => by rw [show k = g from hk]; exact Nat.le_refl _
def Ox (g x : Nat) (k : Nat) : Prop := One g k ∨ k = x
theorem Ox.lt {g x n : Nat} (h : g < n) (hx : x < n) : ∀ k, Ox g x k → k < n := fun k hk => hk.elim (One.lt h k) (fun h => by omega)
theorem rcv_facts {s : PM.Ps} (ok : PM.Ok s) {x : List Ent} (hx : VM.Val 0 x) (a r : Int) :
    decide ((PM.rcv s a r x).1.val = s.val) = !(PM.rcv s a r x).2 ∧ VM.le s.val (PM.rcv s a r x).1.val = true ∧ (PM.rcv s a r x).1.round = s.round + (if (PM.rcv s a r x).2 = true then 1 else 0) ∧ ((PM.rcv s a r x).2 = true → (PM.rcv s a r x).1.acks = []) := by
  have hle : VM.le s.val s.val = true := (VM.le_iff ok.val ok.val).2 fun _ => Int.le_refl _
  by_cases h0 : s.dec = true ∨ r ≠ s.round ∨ a < 0 ∨ s.acc ≤ a
  · rw [PM.rcv_off h0]
    exact ⟨by simp, hle, by simp, by simp⟩
  · cases hl : VM.le x s.val
    · rw [PM.rcv_new h0 hl]
      refine ⟨?_, VM.le_jn1 ok.val hx, by simp, fun _ => rfl⟩
      refine decide_eq_false fun h => ?_
      have := VM.le_jn2 ok.val hx
      rw [show VM.jn s.val x = s.val from h, hl] at this
      cases this
    · rw [PM.rcv_ack h0 hl]
      exact ⟨by simp, hle, by simp, by simp⟩

set_option maxRecDepth 100000 in
set_option maxHeartbeats 4000000 in
theorem lProposerRounds (ct : PT) (n : Int) (v u : Value) (xs : List Ent) (l : List Rq) (w : World) (hn0 : 0 ≤ n) (hn1 : n ≤ 255) (hv : VX.RdV w v xs) (hl : RdRp w u l) :
    Calls Try.prog 5 #[.int .u8 n, v, u] w fun e w' => e = .returned (.bool true) ∧ Below w.heap.size w w' := by
  obtain ⟨va, vc, rfl, _, _⟩ := hv.shape
  obtain ⟨la, lc, rfl, _, _⟩ := hl.shape
  have HV := Lib.hid hv
  have HL := Lib.hid hl
  have HB := Lib.hid (Below.refl w.heap.size w)
  have hE := VX.rValidate _ xs w hv
  obtain ⟨E, hEE⟩ : ∃ E, E = VM.err 0 xs := ⟨_, rfl⟩
  rw [← hEE] at hE
  have HE := Lib.hid hE
  have HEE := Lib.hid hEE
  clear hv hl hE hEE
  go_enter Try.func5, Try.ntmps5
  by_cases h20 : 20 < xs.length
  · have h20i : (20 : Int) < (xs.length : Int) := by omega
    have HQ := Lib.hid (cAwake16 ct w)
    go_wp2_with fail
    refine HQ.out.mono ?_
    rintro e w9 ⟨rfl, hb9⟩
    replace HB := Lib.hid (bnext HB.out hb9)
    clear hb9 HQ
    go_wp2
    go_ret
    exact ⟨rfl, HB.out⟩
  have h20i : ¬ ((20 : Int) < (xs.length : Int)) := by omega
  by_cases h0 : E = 0
  case neg =>
    have hne : (E != 0) = true := bneT h0
    go_wp2_with fail
    refine HE.out.mono ?_
    rintro e w1 ⟨rfl, hb1⟩
    replace HB := Lib.hid (bnext HB.out hb1)
    clear HE hb1
    have HQ := Lib.hid (cAwake16 ct w1)
    go_wp2_with fail
    refine HQ.out.mono ?_
    rintro e w9 ⟨rfl, hb9⟩
    replace HB := Lib.hid (bnext HB.out hb9)
    clear hb9 HQ
    go_wp2
    go_ret
    exact ⟨rfl, HB.out⟩
  subst h0
  have hx : VM.Val 0 xs := (VM.err_val (Int.le_refl 0)).1 HEE.out.symm
  have HX := Lib.hid hx
  have HXL := Lib.hid (show xs.length ≤ 20 by omega)
  go_wp2_with fail
  refine HE.out.mono ?_
  rintro e w1 ⟨rfl, hb1⟩
  replace HB := Lib.hid (bnext HB.out hb1)
  replace HV := Lib.hid (HV.out.below hb1)
  replace HL := Lib.hid (HL.out.below hb1)
  clear HE hb1 hx HEE
  have HQ := Lib.hid (kSmall _ l w1 HL.out)
  go_wp2_with fail
  refine HQ.out.mono ?_
  rintro e w2 ⟨⟨R, rfl, hR⟩, hb2⟩
  replace HB := Lib.hid (bnext HB.out hb2)
  replace HV := Lib.hid (HV.out.below hb2)
  replace HL := Lib.hid (HL.out.below hb2)
  clear hb2 HQ
  cases R
  · clear hR
    have HQ := Lib.hid (cAwake16 ct w2)
    go_wp2_with fail
    refine HQ.out.mono ?_
    rintro e w9 ⟨rfl, hb9⟩
    replace HB := Lib.hid (bnext HB.out hb9)
    clear hb9 HQ
    go_wp2
    go_ret
    exact ⟨rfl, HB.out⟩
  have HF := Lib.hid (hR rfl)
  clear hR
  have hN : 1 ≤ 1 + n % 12 ∧ 1 + n % 12 ≤ 12 := by omega
  have HQ := Lib.hid (ct.new _ (1 + n % 12) _ _ w2 (fun _ h => h.elim) (offNV HV.out) HX.out (by have := HXL.out; omega) hN.1 hN.2)
  go_wp2_with fail
  refine HQ.out.mono ?_
  rintro e w3 ⟨p3, rfl, hp3, hb3⟩
  obtain ⟨ua, uc, ka, kc, rfl, _, _⟩ := hp3.rd.shape
  replace HB := Lib.hid (bnext HB.out hb3)
  replace HL := Lib.hid (HL.out.below hb3)
  have HP3 := Lib.hid hp3.rd
  clear hp3 hb3 HQ HV
  simp only at HP3
  obtain ⟨N, hNN⟩ : ∃ N, Hid (1 + n % 12 = N) := ⟨_, Lib.hid rfl⟩
  rw [hNN.out] at HP3 hN
  obtain ⟨wt, hwt, hA, hbt, -⟩ := oneP 31 w3 (.int .i64 N) (.slice ua xs.length uc) (.int .i64 1) (.slice ka 0 kc) (.bool false)
  have HBt := Lib.hid hbt
  have HW := Lib.hid hwt
  have HX8 := Lib.hid (show PrB 31 wt w3.heap.size (.agg #[.int .i64 N, .slice ua xs.length uc, .int .i64 1, .slice ka 0 kc, .bool false]) from ⟨_, _, _, _, _, rfl, hA⟩)
  have HP8 := Lib.hid (prO_old (G := One w3.heap.size) HP3.out hbt One.ge)
  have HTK := Lib.hid (PM.Ok.new hN.1 hN.2 HX.out 1 false)
  have HTB := Lib.hid (show (PM.Ps.mk N xs 1 [] false).val.length ≤ 20 * (0 + 1) ∧ 1 ≤ (PM.Ps.mk N xs 1 [] false).round ∧ (PM.Ps.mk N xs 1 [] false).round ≤ ((0 : Nat) : Int) + 1 from ⟨HXL.out, by show (1 : Int) ≤ 1; decide, by show (1 : Int) ≤ ((0 : Nat) : Int) + 1; decide⟩)
  clear hwt hA hbt HP3 HXL
  go_upto_region 4 with fail
  rw [hNN.out, HW.out]
  clear HW
  go_wp2
  go_loopw [8] (fun i wr => ∃ (k : Nat) (s : PM.Ps) (pv : Value), k ≤ l.length ∧ i = .int .i64 k ∧ Hid (Below w3.heap.size w3 wr) ∧ Hid (PrB 31 wr w3.heap.size pv) ∧ Hid (PrO (One w3.heap.size) wr pv s) ∧ Hid (PM.Ok s) ∧ Hid (s.val.length ≤ 20 * (k + 1) ∧ 1 ≤ s.round ∧ s.round ≤ (k : Int) + 1)) (fun i _ => l.length - (intOf i).toNat)
  case atStart => exact ⟨0, _, _, Nat.zero_le _, rfl, HBt, HX8, HP8, HTK, HTB⟩
  case round =>
    obtain ⟨k, s, pv, hk, rfl, hbl, hpb, hpo, hok, hbd⟩ := hrel
    clear HX8 HP8 HTK HTB HBt
    obtain ⟨ac, vl, rd, ks, dc⟩ := s
    obtain ⟨pa, pb, pc, pd, rfl, hpu, _⟩ := hpo.out.parts
    simp only at hpb hpo hbd hpu
    by_cases hlt : k < l.length
    · have hq : (k : Int) < (l.length : Int) := by omega
      have hk2 := List.getElem?_eq_getElem hlt
      generalize l[k] = y at hk2
      obtain ⟨ri, rj, x, rb⟩ := y
      have hxf := HF.out.each _ (List.mem_of_getElem? hk2)
      have hk60 := HF.out.len
      obtain ⟨b, o, xa, xc, hi, hbw, e00, e10, f20, e30, hrx⟩ := HL.out.at_ rfl k ri rj x rb hk2
      have HXO := Lib.hid (off_oldV (G := One w3.heap.size) hrx hbl.out One.ge)
      have HA4 := Lib.hid hpb.out.cells
      have HSZ := Lib.hid (show w3.heap.size < wr.heap.size from (Array.getElem?_eq_some_iff.1 HA4.out).1)
      have e0 := VX.below_cell hbl.out e00
      have f2 := VX.below_cell hbl.out f20
      have hv20 : x.length ≤ 20 := hxf.1
      have HVX := Lib.hid (show VM.Val 0 x from hxf.2)
      obtain ⟨T, HT⟩ : ∃ T, Hid (PM.rcv ⟨ac, vl, rd, ks, dc⟩ ri rd x = T) := ⟨_, Lib.hid rfl⟩
      have HTK := Lib.hid (show PM.Ok T.1 by rw [← HT.out]; exact hok.out.rcv HVX.out _ _)
      have HTB := Lib.hid (show T.1.val.length ≤ 20 * (k + 1 + 1) ∧ 1 ≤ T.1.round ∧ T.1.round ≤ ((k + 1 : Nat) : Int) + 1 by
        rw [← HT.out]
        have h1 := PM.rcv_vlen ⟨ac, vl, rd, ks, dc⟩ ri rd x
        have h2 := PM.rcv_round ⟨ac, vl, rd, ks, dc⟩ ri rd x
        have h3 := hbd.out
        simp only at h1 h2
        omega)
      have HFC := Lib.hid (show decide (T.1.val = vl) = !T.2 ∧ VM.le vl T.1.val = true ∧ T.1.round = rd + (if T.2 = true then 1 else 0) ∧ (T.2 = true → T.1.acks = []) by rw [← HT.out]; exact rcv_facts hok.out HVX.out ri rd)
      have HC := Lib.hid (fun (H : Nat → Prop) w' (hb : Below wr.heap.size wr w') (h6 : ∀ k, H k → k < w'.heap.size) (h7 : ∀ k, H k → One w3.heap.size k ∨ wr.heap.size ≤ k) => show RecvAt 13 H _ (.slice xa x.length xc) ri rd T w' by
        rw [← HT.out]
        have h3 := hbd.out
        exact ct.recv _ _ _ ⟨ac, vl, rd, ks, dc⟩ ri rd x w' h6 (hpo.out.ext hb h7) (HXO.out.ext hb h7) hok.out HVX.out (by show vl.length ≤ _; omega) (by omega) (by show 0 ≤ rd; omega) (by show rd ≤ _; omega))
      clear hk2 hrx HT hpb hpo
      go_upto_region 7 with fail
      refine wp_region_held_drew (S := fun w' => Below wr.heap.size wr w') (by kernel_rfl) ((Below.refl _ _).drew) (fun ha => ?_)
      replace ha : Below wr.heap.size wr wr.drew := (Below.refl _ _).drew
      generalize wr.drew = wa at ha ⊢
      refine takeH (i := 1) (v := ?_) rfl (by kernel_rfl) (by kernel_rfl) (by kernel_rfl) (fun _ _ _ h => h) (Or.inl ⟨by rfl, ?_⟩) (by assumption) ?_
      rotate_left
      · (intro w hSw; (try dsimp only at hSw); go_simp; first | done | with_reducible rfl)
      (try simp only [Act.put, List.setIfInBounds_toArray, List.set_cons_zero, List.set_cons_succ])
      refine takeH (i := 2) (v := ?_) rfl (by kernel_rfl) (by kernel_rfl) (by kernel_rfl) (fun _ _ _ h => h) (Or.inl ⟨by rfl, ?_⟩) (by assumption) ?_
      rotate_left
      · (intro w hSw; (try dsimp only at hSw); go_simp; first | done | with_reducible rfl)
      (try simp only [Act.put, List.setIfInBounds_toArray, List.set_cons_zero, List.set_cons_succ])
      refine takeH (i := 3) (v := ?_) rfl (by kernel_rfl) (by kernel_rfl) (by kernel_rfl) (fun _ _ _ h => h) (Or.inl ⟨by rfl, ?_⟩) (by assumption) ?_
      rotate_left
      · (intro w hSw; (try dsimp only at hSw); go_simp; first | done | with_reducible rfl)
      (try simp only [Act.put, List.setIfInBounds_toArray, List.set_cons_zero, List.set_cons_succ])
      refine takeH (i := 4) (v := ?_) rfl (by kernel_rfl) (by kernel_rfl) (by kernel_rfl) (fun _ _ _ h => h) (Or.inl ⟨by rfl, ?_⟩) (by assumption) ?_
      rotate_left
      · (intro w hSw; (try dsimp only at hSw); go_simp; first | done | with_reducible rfl)
      (try simp only [Act.put, List.setIfInBounds_toArray, List.set_cons_zero, List.set_cons_succ])
      refine takeH (i := 6) (v := ?_) rfl (by kernel_rfl) (by kernel_rfl) (by kernel_rfl) (fun _ _ _ h => h) (Or.inl ⟨by rfl, ?_⟩) (by assumption) ?_
      rotate_left
      · (intro w hSw; (try dsimp only at hSw); go_simp; first | done | with_reducible rfl)
      (try simp only [Act.put, List.setIfInBounds_toArray, List.set_cons_zero, List.set_cons_succ])
      refine takeH (i := 8) (v := ?_) rfl (by kernel_rfl) (by kernel_rfl) (by kernel_rfl) (fun _ _ _ h => h) (Or.inl ⟨by rfl, ?_⟩) (by assumption) ?_
      rotate_left
      · (intro w hSw; (try dsimp only at hSw); go_simp; first | done | with_reducible rfl)
      (try simp only [Act.put, List.setIfInBounds_toArray, List.set_cons_zero, List.set_cons_succ])
      refine takeH (i := 9) (v := ?_) rfl (by kernel_rfl) (by kernel_rfl) (by kernel_rfl) (fun _ _ _ h => h) (Or.inl ⟨by rfl, ?_⟩) (by assumption) ?_
      rotate_left
      · (intro w hSw; (try dsimp only at hSw); go_simp; first | done | with_reducible rfl)
      (try simp only [Act.put, List.setIfInBounds_toArray, List.set_cons_zero, List.set_cons_succ])
      refine takeH (i := 10) (v := ?_) rfl (by kernel_rfl) (by kernel_rfl) (by kernel_rfl) (fun _ _ _ h => h) (Or.inl ⟨by rfl, ?_⟩) (by assumption) ?_
      rotate_left
      · (intro w hSw; (try dsimp only at hSw); go_simp; first | done | with_reducible rfl)
      (try simp only [Act.put, List.setIfInBounds_toArray, List.set_cons_zero, List.set_cons_succ])
      refine takeH (i := 11) (v := ?_) rfl (by kernel_rfl) (by kernel_rfl) (by kernel_rfl) (fun _ _ _ h => h) (Or.inl ⟨by rfl, ?_⟩) (by assumption) ?_
      rotate_left
      · (intro w hSw; (try dsimp only at hSw); go_simp; first | done | with_reducible rfl)
      (try simp only [Act.put, List.setIfInBounds_toArray, List.set_cons_zero, List.set_cons_succ])
      refine takeH (i := 0) (v := ?_) rfl (by kernel_rfl) (by kernel_rfl) (by kernel_rfl) (fun _ _ _ h => h) (Or.inl ⟨by rfl, ?_⟩) (by assumption) ?_
      rotate_left
      · (intro w hSw; (try dsimp only at hSw); obtain ⟨z0, z1, z2, z3, z4⟩ := five (below_blk HA4.out hSw); go_simp; first | done | with_reducible rfl)
      (try simp only [Act.put, List.setIfInBounds_toArray, List.set_cons_zero, List.set_cons_succ])
      refine takeH (i := 5) (v := ?_) rfl (by kernel_rfl) (by kernel_rfl) (by kernel_rfl) (fun _ _ _ h => h) (Or.inl ⟨by rfl, ?_⟩) (by assumption) ?_
      rotate_left
      · (intro w hSw; (try dsimp only at hSw); have hcx := VX.below_cell hSw e0; go_simp; first | done | with_reducible rfl)
      (try simp only [Act.put, List.setIfInBounds_toArray, List.set_cons_zero, List.set_cons_succ])
      refine takeH (i := 7) (v := ?_) rfl (by kernel_rfl) (by kernel_rfl) (by kernel_rfl) (fun _ _ _ h => h) (Or.inl ⟨by rfl, ?_⟩) (by assumption) ?_
      rotate_left
      · (intro w hSw; (try dsimp only at hSw); obtain ⟨z0, z1, z2, z3, z4⟩ := five (below_blk HA4.out hSw); go_simp; first | done | with_reducible rfl)
      (try simp only [Act.put, List.setIfInBounds_toArray, List.set_cons_zero, List.set_cons_succ])
      refine takeH (i := 12) (v := ?_) rfl (by kernel_rfl) (by kernel_rfl) (by kernel_rfl) (fun _ _ _ h => h) (Or.inl ⟨by rfl, ?_⟩) (by assumption) ?_
      rotate_left
      · (intro w hSw; (try dsimp only at hSw); have hcx := VX.below_cell hSw f2; go_simp; first | done | with_reducible rfl)
      (try simp only [Act.put, List.setIfInBounds_toArray, List.set_cons_zero, List.set_cons_succ])
      refine wpAnyH_ready (rs := [13, 17]) (by kernel_rfl) (by simp) ?_
      refine stepH rfl (fun K hK => ?_) (stepH rfl (fun K hK => ?_) AllReadyH.nil)
      focus
        go_simp
        refine (HC.out (One w3.heap.size) wa ha (One.lt (Nat.lt_of_lt_of_le HSZ.out ha.size)) (fun _ h => .inl h)).mono ?_
        rintro e wb ⟨p6, rfl, hp6, hq⟩
        have hb := bnext ha hq
        go_wp2_with fail
        refine hK.out _ _ (hb) (fun _ => ?_)
        clear hK K
        (try simp only [Act.put, List.setIfInBounds_toArray, List.set_cons_zero, List.set_cons_succ])
        refine takeH (i := 14) (v := ?_) rfl (by kernel_rfl) (by kernel_rfl) (by kernel_rfl) (fun _ _ _ h => h) (Or.inl ⟨by rfl, ?_⟩) (by assumption) ?_
        rotate_left
        · (intro w hSw; (try dsimp only at hSw); go_simp; first | done | with_reducible rfl)
        (try simp only [Act.put, List.setIfInBounds_toArray, List.set_cons_zero, List.set_cons_succ])
        refine takeH (i := 15) (v := ?_) rfl (by kernel_rfl) (by kernel_rfl) (by kernel_rfl) (fun _ _ _ h => h) (Or.inl ⟨by rfl, ?_⟩) (by assumption) ?_
        rotate_left
        · (intro w hSw; (try dsimp only at hSw); go_simp; first | done | with_reducible rfl)
        (try simp only [Act.put, List.setIfInBounds_toArray, List.set_cons_zero, List.set_cons_succ])
        refine takeH (i := 16) (v := ?_) rfl (by kernel_rfl) (by kernel_rfl) (by kernel_rfl) (fun _ _ _ h => h) (Or.inl ⟨by rfl, ?_⟩) (by assumption) ?_
        rotate_left
        · (intro w hSw; (try dsimp only at hSw); go_simp; first | done | with_reducible rfl)
        (try simp only [Act.put, List.setIfInBounds_toArray, List.set_cons_zero, List.set_cons_succ])
        refine wpAnyH_ready (rs := [17]) (by kernel_rfl) (by simp) ?_
        refine stepH rfl (fun K hK => ?_) AllReadyH.nil
        go_simp
        have hc := bnext hb (below_fresh _ (.cells #[.int .i64 0, .slice none 0 0, .int .i64 0, .slice none 0 0, .bool false] 31))
        have hz := heap_alloc_new wb (.cells #[.int .i64 0, .slice none 0 0, .int .i64 0, .slice none 0 0, .bool false] 31)
        refine hK.out _ _ (hc) (fun _ => ?_)
        clear hK K
        (try simp only [Act.put, List.setIfInBounds_toArray, List.set_cons_zero, List.set_cons_succ])
        obtain ⟨wc, hwn⟩ : ∃ w', (wb).alloc (.cells #[.int .i64 0, .slice none 0 0, .int .i64 0, .slice none 0 0, .bool false] 31) = w' := ⟨_, rfl⟩
        have hp7 : PrO (Ox w3.heap.size wb.heap.size) _ _ T.1 := hp6.ext (below_fresh wb (.cells #[.int .i64 0, .slice none 0 0, .int .i64 0, .slice none 0 0, .bool false] 31)) (fun k hk => hk.elim .inl (fun h => .inr (by omega)))
        rw [hwn] at hc hz hp7 ⊢
        have hgl := hb.size
        generalize wb.heap.size = gx at hz hgl hp7 ⊢
        clear hwn hb hq hp6
      rotate_left
      focus
        go_simp
        have hb := bnext ha (below_fresh _ (.cells #[.int .i64 0, .slice none 0 0, .int .i64 0, .slice none 0 0, .bool false] 31))
        have hz := heap_alloc_new wa (.cells #[.int .i64 0, .slice none 0 0, .int .i64 0, .slice none 0 0, .bool false] 31)
        refine hK.out _ _ (hb) (fun _ => ?_)
        clear hK K
        (try simp only [Act.put, List.setIfInBounds_toArray, List.set_cons_zero, List.set_cons_succ])
        obtain ⟨wb, hwn⟩ : ∃ w', (wa).alloc (.cells #[.int .i64 0, .slice none 0 0, .int .i64 0, .slice none 0 0, .bool false] 31) = w' := ⟨_, rfl⟩
        rw [hwn] at hb hz ⊢
        have hgl := ha.size
        generalize wa.heap.size = gx at hz hgl ⊢
        clear hwn
        refine wpAnyH_ready (rs := [13]) (by kernel_rfl) (by simp) ?_
        refine stepH rfl (fun K hK => ?_) AllReadyH.nil
        go_simp
        refine (HC.out (Ox w3.heap.size gx) wb hb (Ox.lt (Nat.lt_of_lt_of_le HSZ.out hb.size) (Array.getElem?_eq_some_iff.1 hz).1) (fun _ h => h.imp id (fun h => by omega))).mono ?_
        rintro e wc ⟨p6, rfl, hp7, hq⟩
        have hc := bnext hb hq
        replace hz := below_blk hz hq
        go_wp2_with fail
        refine hK.out _ _ (hc) (fun _ => ?_)
        clear hK K
        (try simp only [Act.put, List.setIfInBounds_toArray, List.set_cons_zero, List.set_cons_succ])
        clear hb hq
        refine takeH (i := 14) (v := ?_) rfl (by kernel_rfl) (by kernel_rfl) (by kernel_rfl) (fun _ _ _ h => h) (Or.inl ⟨by rfl, ?_⟩) (by assumption) ?_
        rotate_left
        · (intro w hSw; (try dsimp only at hSw); go_simp; first | done | with_reducible rfl)
        (try simp only [Act.put, List.setIfInBounds_toArray, List.set_cons_zero, List.set_cons_succ])
        refine takeH (i := 15) (v := ?_) rfl (by kernel_rfl) (by kernel_rfl) (by kernel_rfl) (fun _ _ _ h => h) (Or.inl ⟨by rfl, ?_⟩) (by assumption) ?_
        rotate_left
        · (intro w hSw; (try dsimp only at hSw); go_simp; first | done | with_reducible rfl)
        (try simp only [Act.put, List.setIfInBounds_toArray, List.set_cons_zero, List.set_cons_succ])
        refine takeH (i := 16) (v := ?_) rfl (by kernel_rfl) (by kernel_rfl) (by kernel_rfl) (fun _ _ _ h => h) (Or.inl ⟨by rfl, ?_⟩) (by assumption) ?_
        rotate_left
        · (intro w hSw; (try dsimp only at hSw); go_simp; first | done | with_reducible rfl)
        (try simp only [Act.put, List.setIfInBounds_toArray, List.set_cons_zero, List.set_cons_succ])
      all_goals
        obtain ⟨⟨ac', vl', rd', ks', dc'⟩, b'⟩ := T
        obtain ⟨qa, qb, qc, qd, rfl, _, _⟩ := hp7.parts
        simp only at hp7
        obtain ⟨w5, hwn⟩ : ∃ w', wc.setRow gx #[.int .i64 ac', .slice qa vl'.length qb, .int .i64 rd', .slice qc ks'.length qd, .bool dc'] = w' := ⟨_, rfl⟩
        have hon : Only gx wc w5 := by rw [← hwn]; exact onlyR _ _ _
        have hd := seen hc hgl hon
        have hzz : w5.heap[gx]? = some (.cells #[.int .i64 ac', .slice qa vl'.length qb, .int .i64 rd', .slice qc ks'.length qd, .bool dc'] 31 (0, 0)) := by rw [← hwn]; exact setRow_heap _ _ _ _ _ _ hz
        refine wpAnyH_ready (rs := [18]) (by kernel_rfl) (by simp) ?_
        refine stepH rfl (fun K hK => ?_) AllReadyH.nil
        rw [if_pos (by rfl)]
        refine wp_store_row 31 _ _ rfl gx #[.int .i64 ac', .slice qa vl'.length qb, .int .i64 rd', .slice qc ks'.length qd, .bool dc'] rfl rfl 31 _ hz (by kernel_rfl) rfl (cells5 _ _ _ _ _ _ _ _ _) ?_
        simp only
        rw [hwn]
        refine hK.out _ _ (hd) (fun _ => ?_)
        clear hK K
        refine takeH (i := 19) (v := ?_) rfl (by kernel_rfl) (by kernel_rfl) (by kernel_rfl) (fun _ _ _ h => h) (Or.inl ⟨by rfl, ?_⟩) (by assumption) ?_
        rotate_left
        · (intro w hSw; (try dsimp only at hSw); go_simp; first | done | with_reducible rfl)
        (try simp only [Act.put, List.setIfInBounds_toArray, List.set_cons_zero, List.set_cons_succ])
        refine wpAnyH_done (by kernel_rfl) ?_ _
        have HB5 := Lib.hid (bnext hbl.out hd)
        have HA5 := Lib.hid (below_blk HA4.out hd)
        have HZ5 := Lib.hid hzz
        have HP5 := Lib.hid ((hp7.only hon (.inr rfl)).weak fun _ h => .inl h)
        have HGX := Lib.hid (show w3.heap.size < gx from Nat.lt_of_lt_of_le HSZ.out hgl)
        have HU5 := Lib.hid (hpu.below hd)
        obtain ⟨hf1, hf2, hf3, hf4⟩ := HFC.out
        simp only at hf1 hf2 hf3 hf4
        have HEQ := Lib.hid (VX.rEqual _ _ vl' vl w5 (by obtain ⟨u, kk, ee, h3, _⟩ := HP5.out.rd; cases ee; exact h3) HU5.out.rd)
        rw [hf1] at HEQ
        have HTK2 := Lib.hid HTK.out
        have HTB2 := Lib.hid HTB.out
        simp only at HTK2 HTB2
        have HLE := Lib.hid (fun w' (hb : Below w5.heap.size w5 w') => VX.rLessEqual _ _ vl vl' w' (HU5.out.below hb).rd (by obtain ⟨u, kk, ee, h3, _⟩ := (HP5.out.below hb).rd; cases ee; exact h3))
        rw [hf2] at HLE
        have HF3 := Lib.hid hf3
        have HF4 := Lib.hid hf4
        clear hp7 hc hz hgl hwn hon hd hzz ha HC e0 f2 HFC hf1 hf2 hf3 hf4
        obtain ⟨c0, c1, c2, c3, c4⟩ := five HA5.out
        obtain ⟨d0, d1, d2, d3, d4⟩ := five HZ5.out
        go_wp2_with fail
        refine HEQ.out.mono ?_
        rintro e w6 ⟨rfl, hb6⟩
        have HB6 := Lib.hid (bnext HB5.out hb6)
        have HA6 := Lib.hid (below_blk HA5.out hb6)
        have HZ6 := Lib.hid (below_blk HZ5.out hb6)
        have HP6 := Lib.hid (HP5.out.below hb6)
        have HL6 := Lib.hid (HLE.out w6 hb6)
        clear c0 c1 c2 c3 c4 d0 d1 d2 d3 d4 HEQ HLE HA5 HZ5 HP5 HB5 HU5 hb6
        obtain ⟨c0, c1, c2, c3, c4⟩ := five HA6.out
        obtain ⟨d0, d1, d2, d3, d4⟩ := five HZ6.out
        go_wp2_with fail
        refine HL6.out.mono ?_
        rintro e w7 ⟨rfl, hb7⟩
        have HB7 := Lib.hid (bnext HB6.out hb7)
        have HP7 := Lib.hid (HP6.out.below hb7)
        have HA7 := Lib.hid (below_blk HA6.out hb7)
        have HZ7 := Lib.hid (below_blk HZ6.out hb7)
        clear c0 c1 c2 c3 c4 d0 d1 d2 d3 d4 HL6 HA6 HZ6 HP6 HB6 hb7
        obtain ⟨c0, c1, c2, c3, c4⟩ := five HA7.out
        obtain ⟨d0, d1, d2, d3, d4⟩ := five HZ7.out
        have hra := HZ7.out
        have hrz := HA7.out
        have hrdb := hbd.out.2
        cases b'
        · obtain rfl : rd' = rd := by simpa using HF3.out
          clear HF3 HF4
          have hrr : (rd' == rd' + 1) = false := beqF (by omega)
          have hrr2 : (rd' != rd') = false := bneF rfl
          go_wp2_with (first
            | (refine wpList_load_row rfl 31 _ rfl gx rfl 31 _ (0, 0) _ hra Try.underlying31 rfl (by kernel_rfl) ?_)
            | (refine wpList_store_row rfl 31 _ _ rfl w3.heap.size _ rfl rfl 31 _ hrz (by kernel_rfl) rfl (cells5 _ _ _ _ _ _ _ _ _) ?_))
          obtain ⟨w8, hw8⟩ : ∃ w8, w7.setRow w3.heap.size #[.int .i64 ac', .slice qa vl'.length qb, .int .i64 rd', .slice qc ks'.length qd, .bool dc'] = w8 := ⟨_, rfl⟩
          rw [hw8]
          have hon : Only w3.heap.size w7 w8 := by rw [← hw8]; exact onlyR _ _ _
          have HB8 := Lib.hid (seen HB7.out (Nat.le_refl _) hon)
          have HX8 := Lib.hid (show PrB 31 w8 w3.heap.size _ from ⟨_, _, _, _, _, rfl, by rw [← hw8]; exact setRow_heap _ _ _ _ _ _ hrz⟩)
          have HP8 := Lib.hid (HP7.out.only hon rfl)
          clear hon hw8 hra hrz HA7 HZ7 HB7 HP7 c0 c1 c2 c3 c4 d0 d1 d2 d3 d4
          go_wp2
          go_roundw
          case rel => exact ⟨k + 1, _, _, by omega, by go_num, HB8, HX8, HP8, HTK2, HTB2⟩
          case measure => simp [intOf]; omega
        · obtain rfl : rd' = rd + 1 := by simpa using HF3.out
          obtain rfl : ks' = [] := HF4.out rfl
          clear HF3 HF4
          have hrr : (rd + 1 == rd + 1) = true := beqT rfl
          go_wp2_with (first
            | (refine wpList_load_row rfl 31 _ rfl gx rfl 31 _ (0, 0) _ hra Try.underlying31 rfl (by kernel_rfl) ?_)
            | (refine wpList_store_row rfl 31 _ _ rfl w3.heap.size _ rfl rfl 31 _ hrz (by kernel_rfl) rfl (cells5 _ _ _ _ _ _ _ _ _) ?_))
          obtain ⟨w8, hw8⟩ : ∃ w8, w7.setRow w3.heap.size #[.int .i64 ac', .slice qa vl'.length qb, .int .i64 (rd + 1), .slice qc 0 qd, .bool dc'] = w8 := ⟨_, rfl⟩
          rw [hw8]
          have hon : Only w3.heap.size w7 w8 := by rw [← hw8]; exact onlyR _ _ _
          have HB8 := Lib.hid (seen HB7.out (Nat.le_refl _) hon)
          have HX8 := Lib.hid (show PrB 31 w8 w3.heap.size _ from ⟨_, _, _, _, _, rfl, by rw [← hw8]; exact setRow_heap _ _ _ _ _ _ hrz⟩)
          have HP8 := Lib.hid (HP7.out.only hon rfl)
          clear hon hw8 hra hrz HA7 HZ7 HB7 HP7 c0 c1 c2 c3 c4 d0 d1 d2 d3 d4
          go_wp2
          go_roundw
          case rel => exact ⟨k + 1, _, _, by omega, by go_num, HB8, HX8, HP8, HTK2, HTB2⟩
          case measure => simp [intOf]; omega
    · have hq : ¬ ((k : Int) < (l.length : Int)) := by omega
      have HQ := Lib.hid (cAwake16 ct wr)
      replace HB := Lib.hid (bnext HB.out hbl.out)
      clear hpb hpo hpu hbl
      go_wp2_with fail
      refine HQ.out.mono ?_
      rintro e w5 ⟨rfl, hb5⟩
      replace HB := Lib.hid (bnext HB.out hb5)
      clear HQ hb5
      go_wp2
      go_ret
      exact ⟨rfl, HB.out⟩
end Go.Proofs.Ytejedodicihecaa
