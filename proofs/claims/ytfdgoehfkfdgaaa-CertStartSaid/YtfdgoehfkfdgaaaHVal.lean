/-
  The calls of the laws' Valid over a list of configurations, of valid over a list of certificates, and of Cert. Conditions: what comes in reads.
-/
import Derived.Test.YtfdgoehfkfdgaaaHRef
namespace Go.Proofs.Ytfdgoehfkfdgaaa
open Go.RowKit
open JM (Chg)
open CM (Fp)

/-- The configurations of a list are valid and agree. -/
def CM.AllOk (ls : List (List Fp)) : Prop := (∀ f ∈ ls, CM.Ok f) ∧ ∀ (i k : Nat) (x y : List Fp), k < i → ls[i]? = some x → ls[k]? = some y → CM.Agr x y
def CM.UpTo (ls : List (List Fp)) (n : Nat) : Prop := (∀ (k : Nat) (x : List Fp), k < n → ls[k]? = some x → CM.Ok x) ∧ ∀ (i k : Nat) (x y : List Fp), i < n → k < i → ls[i]? = some x → ls[k]? = some y → CM.Agr x y
theorem CM.UpTo.next {ls : List (List Fp)} {n : Nat} {x : List Fp} (h : CM.UpTo ls n) (hx : ls[n]? = some x) (ho : CM.Ok x) (ha : ∀ (k : Nat) (y : List Fp), k < n → ls[k]? = some y → CM.Agr x y) : CM.UpTo ls (n + 1) := by
  refine ⟨fun k y hk hy => ?_, fun i k y z hi hk hy hz => ?_⟩
  · by_cases h1 : k = n
    · subst h1; rw [hx] at hy; cases hy; exact ho
    · exact h.1 k y (by omega) hy
  · by_cases h1 : i = n
    · subst h1; rw [hx] at hy; cases hy; exact ha k z hk hz
    · exact h.2 i k y z (by omega) hk hy hz
theorem CM.UpTo.all {ls : List (List Fp)} (h : CM.UpTo ls ls.length) : CM.AllOk ls := by
  refine ⟨fun f hf => ?_, fun i k x y hk hx hy => h.2 i k x y (List.getElem?_eq_some_iff.1 hx).1 hk hx hy⟩
  obtain ⟨k, hk, rfl⟩ := List.getElem_of_mem hf
  exact h.1 k _ hk (List.getElem?_eq_getElem hk)

/-- The call gives a truth value; if it is true, P holds. -/
def Says (e : Ending) (P : Prop) : Prop := ∃ R : Bool, e = .returned (.bool R) ∧ (R = true → P)

set_option maxRecDepth 100000 in
set_option maxHeartbeats 4000000 in
theorem kValidL (v : Value) (ls : List (List Fp)) (w : World) (h : RdLs RdF w v ls) :
    Calls Try.prog 37 #[v] w fun e w' => Says e (CM.AllOk ls) ∧ Below w.heap.size w w' := by
  obtain ⟨ad, cp, rfl, hcp, _⟩ := h.shape
  have H := Lib.hid h
  clear h
  go_enter Try.func37, Try.ntmps37
  go_wp2
  go_loopw [3] (fun i wr => ∃ k : Nat, k ≤ ls.length ∧ i = .int .i64 k ∧ Hid (Below w.heap.size w wr) ∧ Hid (CM.UpTo ls k)) (fun i _ => ls.length - (intOf i).toNat)
  case atStart => exact ⟨0, Nat.zero_le _, rfl, Below.refl _ _, ⟨fun k _ hk => by omega, fun i _ _ _ hi => by omega⟩⟩
  case round =>
    obtain ⟨k, hk, rfl, hbl, hup⟩ := hrel
    by_cases hlt : k < ls.length
    · have hq : (k : Int) < (ls.length : Int) := by omega
      have hk2 := List.getElem?_eq_getElem hlt
      generalize ls[k] = x at hk2
      obtain ⟨b, o, xa, xl, xc, hi, hbw, c0, hrx⟩ := (H.out.below hbl.out (fun _ _ hr => hr.below hbl.out)).at_ cfgE k x hk2
      have hv := rValidateC _ x wr hrx
      obtain ⟨E, hE⟩ : ∃ E, E = CM.errL (0, 0) x := ⟨_, rfl⟩
      rw [← hE] at hv
      have HV := Lib.hid hv
      have HRX := Lib.hid hrx
      have HK2 := Lib.hid hk2
      clear hv hrx hk2
      by_cases h0 : E = 0
      case neg =>
        have hne : (E != 0) = true := bne_t h0
        clear h0 hE
        go_wp2_with fail
        refine HV.out.mono ?_
        rintro e w1 ⟨rfl, hb1⟩
        have HB1 := Lib.hid (bnext hbl.out hb1)
        clear c0 hi hbw HV hb1 hbl
        go_wp2
        go_ret
        exact ⟨⟨false, rfl, by intro h; cases h⟩, HB1.out⟩
      subst h0
      have HOK := Lib.hid (show CM.Ok x from hE.symm)
      clear hE
      go_wp2_with fail
      refine HV.out.mono ?_
      rintro e w1 ⟨rfl, hb1⟩
      have HB1 := Lib.hid (bnext hbl.out hb1)
      have C0 := Lib.hid (below_cell hb1 c0)
      have HRX1 := Lib.hid (HRX.out.below hb1)
      clear c0 HV hb1 hbl HRX
      go_wp2
      go_loopw [4] (fun i wr => ∃ j : Nat, j ≤ k ∧ i = .int .i64 j ∧ Hid (Below w1.heap.size w1 wr) ∧ Hid (∀ (m : Nat) (y : List Fp), m < j → ls[m]? = some y → CM.Agr x y)) (fun i _ => k - (intOf i).toNat)
      case atStart => exact ⟨0, Nat.zero_le _, rfl, Below.refl _ _, fun m _ hm => by omega⟩
      case round =>
        obtain ⟨j, hj, rfl, hbl, hag⟩ := hrel
        by_cases hlt2 : j < k
        · have hq2 : (j : Int) < (k : Int) := by omega
          have hj2 := List.getElem?_eq_getElem (show j < ls.length by omega)
          generalize ls[j] = y at hj2
          have hbw2 := bnext HB1.out hbl.out
          obtain ⟨b2, o2, ya, yl, yc, hi2, hbx2, d0, hry⟩ := (H.out.below hbw2 (fun _ _ hr => hr.below hbw2)).at_ cfgE j y hj2
          have HA := Lib.hid (fun p : Later wr => Calls.later (rAgree _ _ x y p.val ((HRX1.out.below hbl.out).below p.h) (hry.below p.h)))
          have k0 : ∀ p : Later wr, p.val.cell? ⟨b, o, none⟩ = some (.slice xa xl xc) := fun p => below_cell p.h (below_cell hbl.out C0.out)
          have k1 : ∀ p : Later wr, p.val.cell? ⟨b2, o2, none⟩ = some (.slice ya yl yc) := fun p => below_cell p.h d0
          obtain ⟨A, hA⟩ : ∃ A, A = CM.agr x y := ⟨_, rfl⟩
          rw [← hA] at HA
          have HAE := Lib.hid hA
          have HJ2 := Lib.hid hj2
          have HBL := Lib.hid hbl.out
          clear d0 hry hj2 hA hbw2 hbl
          cases A
          · go_wp2
            refine wp_region_later (by kernel_rfl) (by kernel_rfl) ?_
            repeat (go_big_quiet_step (first | (go_at_call 63; with_reducible exact HA.out _)))
            refine wpQuiet_nil ?_
            rintro _ ⟨p', rfl⟩
            have HB2 := Lib.hid (bnext HB1.out (bnext HBL.out p'.h))
            generalize p'.val = w2 at HB2 ⊢
            clear k0 k1 HA HBL
            go_wp2
            go_ret
            exact ⟨⟨false, rfl, by intro h; cases h⟩, HB2.out⟩
          · have HAG := Lib.hid (show ∀ (m : Nat) (z : List Fp), m < j + 1 → ls[m]? = some z → CM.Agr x z from fun m z hm hz => by
              by_cases h1 : m = j
              · subst h1
                rw [HJ2.out] at hz
                cases hz
                exact CM.agr_iff HAE.out.symm
              · exact hag.out m z (by omega) hz)
            go_wp2
            refine wp_region_later (by kernel_rfl) (by kernel_rfl) ?_
            repeat (go_big_quiet_step (first | (go_at_call 63; with_reducible exact HA.out _)))
            refine wpQuiet_nil ?_
            rintro _ ⟨p', rfl⟩
            have HB2 := Lib.hid (bnext HBL.out p'.h)
            generalize p'.val = w2 at HB2 ⊢
            clear k0 k1 HA HBL
            go_wp2
            go_roundw
            case rel => exact ⟨j + 1, by omega, by go_num, HB2, HAG⟩
            case measure => simp [intOf]; omega
        · have hq2 : ¬ ((j : Int) < (k : Int)) := by omega
          obtain rfl : j = k := by omega
          have HUP := Lib.hid (CM.UpTo.next hup.out HK2.out HOK.out hag.out)
          have HB2 := Lib.hid (bnext HB1.out hbl.out)
          clear hup hag hbl C0 HRX1
          go_wp2
          go_roundw
          case rel => exact ⟨j + 1, by omega, by go_num, HB2, HUP⟩
          case measure => simp [intOf]; omega
    · have hq : ¬ ((k : Int) < (ls.length : Int)) := by omega
      obtain rfl : k = ls.length := by omega
      go_wp2
      go_ret
      exact ⟨⟨true, rfl, fun _ => hup.out.all⟩, hbl.out⟩

/-! Lists of certificates. -/
abbrev Fc := List Fp × List Fp
def encCt (p : (SV × SV) × Fc) : List Value := [svV p.1.1, svV p.1.2]
theorem hlCt : 0 < 2 ∧ ∀ x, (encCt x).length = 2 := ⟨by decide, fun _ => rfl⟩
theorem certE : IsElem Try.prog 31 25 2 48 encCt where
  ht := Try.underlying31
  info := by
    obtain ⟨i0, hi, hz0, hz1, hz2⟩ := info_parts (show (Try.prog.info? 25).map (fun i => (i.zero, i.size, i.bytes)) = some (some (.agg #[.slice none 0 0, .slice none 0 0]), 2, 48) by kernel_rfl)
    exact ⟨i0, _, hi, hz0, hz1, hz2, rfl⟩
  len := fun _ => rfl
  one := by intro x u hu; simp [encCt] at hu; rcases hu with rfl | rfl <;> rfl
  pos := by decide
  fits := by decide
def RdCt (w : World) (v : Value) (cs : List Fc) : Prop := ∃ ps : List ((SV × SV) × Fc), RdG encCt 2 w v ps ∧ (∀ p ∈ ps, RdF w (svV p.1.1) p.2.1 ∧ RdF w (svV p.1.2) p.2.2) ∧ ps.map (·.2) = cs
theorem RdCt.below {w w' : World} {v : Value} {cs : List Fc} (h : RdCt w v cs) (hb : Below w.heap.size w w') : RdCt w' v cs := by
  obtain ⟨ps, h1, h2, h3⟩ := h
  exact ⟨ps, h1.below hb, fun p hp => ⟨(h2 p hp).1.below hb, (h2 p hp).2.below hb⟩, h3⟩
theorem RdCt.shape {w : World} {v : Value} {cs : List Fc} (h : RdCt w v cs) : ∃ a c, v = .slice a cs.length c ∧ c ≤ 9223372036854775807 ∧ cs.length ≤ c := by
  obtain ⟨ps, h1, _, rfl⟩ := h
  simpa using h1.shape
theorem RdCt.at_ {w : World} {a : Option Addr} {n c : Nat} {cs : List Fc} (h : RdCt w (.slice a n c) cs) (k : Nat) (f t : List Fp) (hk : cs[k]? = some (f, t)) :
    ∃ b o fa fc ta tc, (∀ w0, (Instr.indexAt 31 (.slice a n c) (.int .i64 (k : Int))).run Try.prog w0 = .ok (.pointer (some ⟨b, o, none⟩)) w0) ∧ b < w.heap.size ∧
      w.cell? ⟨b, o, none⟩ = some (.slice fa f.length fc) ∧ w.cell? ⟨b, o + 1, none⟩ = some (.slice ta t.length tc) ∧ RdF w (.slice fa f.length fc) f ∧ RdF w (.slice ta t.length tc) t := by
  obtain ⟨ps, h1, h2, rfl⟩ := h
  rw [List.getElem?_map] at hk
  obtain ⟨p, hp, hx⟩ := Option.map_eq_some_iff.1 hk
  obtain ⟨b, o, h3, h4, h5⟩ := h1.at_ certE k p hp
  obtain ⟨r1, r2⟩ := h2 p (List.mem_of_getElem? hp)
  have e1 : p.2.1 = f := by rw [hx]
  have e2 : p.2.2 = t := by rw [hx]
  rw [e1] at r1
  rw [e2] at r2
  obtain ⟨fa, fc, s1, _⟩ := r1.shape
  obtain ⟨ta, tc, s2, _⟩ := r2.shape
  have c0 := h5 0 _ rfl
  have c1 := h5 1 _ rfl
  rw [s1] at r1 c0
  rw [s2] at r2 c1
  exact ⟨b, o, fa, fc, ta, tc, h3, h4, c0, c1, r1, r2⟩
theorem rdCt_two {w : World} {g : Nat} {a b c d : Value} {f t f' t' : List Fp} (hg : w.heap[g]? = some (.cells #[a, b, c, d] 25 (0, 0))) (ha : RdF w a f) (hb : RdF w b t) (hc : RdF w c f') (hd : RdF w d t') : RdCt w (.slice (some ⟨g, 0, none⟩) 2 2) [(f, t), (f', t')] := by
  obtain ⟨aa, ac, rfl, _⟩ := ha.shape
  obtain ⟨ba, bc, rfl, _⟩ := hb.shape
  obtain ⟨ca, cc, rfl, _⟩ := hc.shape
  obtain ⟨da, dc, rfl, _⟩ := hd.shape
  refine ⟨[(((aa, f.length, ac), (ba, t.length, bc)), (f, t)), (((ca, f'.length, cc), (da, t'.length, dc)), (f', t'))], ?_, ?_, rfl⟩
  · refine ⟨_, 2, rfl, Nat.le_refl _, by unfold maxLen; omega, (fun h => by cases h), hlCt, fun x hx j u hu => ?_⟩
    cases hx
    rw [addr_plain, Nat.zero_add]
    match j, hu with
    | 0, hu => cases hu; simp [World.cell?, hg, svV]
    | 1, hu => cases hu; simp [World.cell?, hg, svV]
    | 2, hu => cases hu; simp [World.cell?, hg, svV]
    | 3, hu => cases hu; simp [World.cell?, hg, svV]
    | n + 4, hu => simp [cellsOf, encCt] at hu
  · intro p hp
    simp only [List.mem_cons, List.mem_nil_iff, or_false] at hp
    rcases hp with rfl | rfl
    · exact ⟨ha, hb⟩
    · exact ⟨hc, hd⟩
end Go.Proofs.Ytfdgoehfkfdgaaa
