/-
  The call of the law AcceptorChain: it returns true. Conditions: what comes in reads; the contracts of package acceptor hold.
-/
import Derived.Test.YtnkeaphfheminaaALaw2
namespace Go.Proofs.Ytnkeaphfheminaa
open Go.RowKit
open VM (Ent)

theorem ownV_keepX {e : TypeId} {base : Nat} {w w' : World} {v : Value} {xs : List Ent} (h : VX.OwnV base w v xs) (he : e ≠ 41) (hk : KeepsX e w w') : VX.OwnV base w' v xs := by
  refine ⟨h.1, ?_⟩
  rcases h.2 with h6 | ⟨gg, cap, cur, hv, hgg, hh, r⟩
  · exact .inl h6
  · refine .inr ⟨gg, cap, cur, hv, hgg, ?_, r⟩
    rw [hk gg (Array.getElem?_eq_some_iff.1 hh).1 (by intro cur' fr' e'; rw [hh] at e'; injection e' with e'; injection e' with _ ht; exact he ht.symm)]
    exact hh
/-- A list of vectors, each of the call's own. -/
def OwnVV (base : Nat) (w : World) (v : Value) (ls : List (List Ent)) : Prop := ∃ ps : List (SV × List Ent), OwnG encV 23 1 base w v ps ∧ (∀ p ∈ ps, VX.OwnV base w (svV p.1) p.2) ∧ ps.map (·.2) = ls
theorem OwnVV.rd {base : Nat} {w : World} {v : Value} {ls : List (List Ent)} (h : OwnVV base w v ls) : RdVs w v ls := by
  obtain ⟨ps, h1, h2, h3⟩ := h; exact ⟨ps, h1.rd, fun p hp => (h2 p hp).rd, h3⟩
theorem OwnVV.below {base : Nat} {w w' : World} {v : Value} {ls : List (List Ent)} (h : OwnVV base w v ls) (hb : Below w.heap.size w w') : OwnVV base w' v ls := by
  obtain ⟨ps, h1, h2, h3⟩ := h; exact ⟨ps, h1.below hb, fun p hp => (h2 p hp).below hb, h3⟩
theorem OwnVV.snoc {base : Nat} {w w2 : World} {ls : List (List Ent)} {ps : List (SV × List Ent)} {s : SV} {x : List Ent} {v2 : Value} (h2 : ∀ p ∈ ps, VX.OwnV base w (svV p.1) p.2) (h3 : ps.map (·.2) = ls) (ho : OwnG encV 23 1 base w2 v2 (ps ++ [(s, x)])) (hk : KeepsX 23 w w2) (hp : VX.OwnV base w2 (svV s) x) : OwnVV base w2 v2 (ls ++ [x]) :=
  ⟨ps ++ [(s, x)], ho, fun q hq => (List.mem_append.1 hq).elim (fun h => ownV_keepX (h2 q h) (by decide) hk) (fun h => by rw [List.mem_singleton] at h; subst h; exact hp), by rw [List.map_append, h3]; rfl⟩
theorem OwnVV.nil (base : Nat) (w : World) : OwnVV base w (.slice none 0 0) [] := ⟨[], OwnG.nil hlV _ _ _, (fun _ h => by cases h), rfl⟩
theorem chn_take {a : List Ent} {ls : List (List Ent)} {k : Nat} {x : List Ent} (h : ls[k]? = some x) : VM.chn a (ls.take (k + 1)) = VM.chn a (ls.take k) ++ [VM.jn (VM.acF a (ls.take k)) x] := by
  obtain ⟨hk, rfl⟩ := List.getElem?_eq_some_iff.1 h
  rw [List.take_succ_eq_append_getElem hk, VM.chn_snoc]

set_option maxRecDepth 100000 in
set_option maxHeartbeats 4000000 in
theorem lAcceptorChain (ct : AT) (v : Value) (ls : List (List Ent)) (w : World) (hv : RdVs w v ls) :
    Calls Try.prog 6 #[v] w fun e w' => e = .returned (.bool true) ∧ Below w.heap.size w w' := by
  obtain ⟨la, lc, rfl, _, _⟩ := hv.shape
  have HL := Lib.hid hv
  have HV := Lib.hid (kValid _ _ w hv)
  have HB := Lib.hid (Below.refl w.heap.size w)
  clear hv
  go_enter Try.func6, Try.ntmps6
  go_wp2_with fail
  refine HV.out.mono ?_
  rintro e w1 ⟨⟨R, rfl, hR⟩, hb1⟩
  replace HL := Lib.hid (HL.out.below hb1)
  replace HB := Lib.hid (bnext HB.out hb1)
  clear hb1 HV
  cases R
  · have HQ := Lib.hid (cAwake15 ct w1)
    clear hR
    go_wp2_with fail
    refine HQ.out.mono ?_
    rintro e w3 ⟨rfl, hb3⟩
    replace HB := Lib.hid (bnext HB.out hb3)
    clear hb3 HQ
    go_wp2
    go_ret
    exact ⟨rfl, HB.out⟩
  have HS := Lib.hid (hR rfl)
  clear hR
  go_wp2
  go_loopw [3, 4, 5] (fun u z i wr => ∃ k : Nat, k ≤ ls.length ∧ i = .int .i64 k ∧ Hid (Below w1.heap.size w1 wr) ∧ Hid (OwnVV w1.heap.size wr u (VM.chn [] (ls.take k))) ∧ Hid (VX.OwnV w1.heap.size wr z (VM.acF [] (ls.take k)))) (fun _ _ i _ => ls.length - (intOf i).toNat)
  case atStart => exact ⟨0, Nat.zero_le _, rfl, Below.refl _ _, OwnVV.nil _ _, VX.OwnV.nil _ _⟩
  case round =>
    obtain ⟨k, hk, rfl, hbl, hu, hz⟩ := hrel
    obtain ⟨ua, uc, rfl, _, _⟩ := hu.out.rd.shape
    obtain ⟨za, zc, rfl, _, _⟩ := hz.out.rd.shape
    by_cases hlt : k < ls.length
    · have hq : (k : Int) < (ls.length : Int) := by omega
      have hk2 := List.getElem?_eq_getElem hlt
      generalize ls[k] = x at hk2
      have HN := Lib.hid (acF_take (a := []) hk2)
      have HC := Lib.hid (chn_take (a := []) hk2)
      have HLE := Lib.hid (acF_le (xs := []) (by simp) (fun x hx => (HS.out.each x hx).1) HS.out.len k)
      have HVX := Lib.hid (HS.out.each x (List.mem_of_getElem? hk2))
      have HVA := Lib.hid (VM.acF_val (l := ls.take k) (a := []) trivial fun y hy => (HS.out.each y (List.mem_of_mem_take hy)).2)
      have HCL := Lib.hid (show (VM.chn [] (ls.take k)).length = k by rw [VM.chn_length, List.length_take]; omega)
      generalize VM.acF [] (ls.take k) = A at hz HN HC HLE HVA ⊢
      generalize VM.chn [] (ls.take k) = C at hu HC HCL ⊢
      obtain ⟨b, o, xa, xc, hi, _, d0, hrx⟩ := (HL.out.below hbl.out).at_ k x hk2
      have HQ := Lib.hid (VX.rJoin _ _ A x wr hz.out.rd hrx HVX.out.2 (by have := HLE.out; omega) (by have := HVX.out.1; omega))
      rw [VM.rj_jn HVA.out HVX.out.2] at HQ
      clear hk2 hrx
      go_wp2_with fail
      refine HQ.out.mono ?_
      rintro e w7 ⟨v7, rfl, hr7, hb7⟩
      obtain ⟨a7, c7, rfl, _, _⟩ := hr7.rd.shape
      have hsz := hbl.out.size
      have HR7 := Lib.hid (hr7.mono hsz)
      obtain ⟨ps, hp1, hp2, hp3⟩ := hu.out.below hb7
      have hpl : ps.length = C.length := by rw [← hp3, List.length_map]
      have hpl2 : ps.length ≤ 1073741824 := by have := HCL.out; have := HS.out.len; omega
      have HP2 := Lib.hid hp2
      have HP3 := Lib.hid hp3
      have HB7 := Lib.hid (bnext hbl.out hb7)
      have hs2 := HB7.out.size
      clear HQ hr7 hb7 d0 hu hz hbl hp2 hp3 hsz hpl
      go_wp2_with (at_builtin; refine wp_appG1 vecE ((a7, (VM.jn A x).length, c7), VM.jn A x) rfl _ _ rfl rfl hp1 rfl hpl2 hs2 ?_)
      intro v8 w8 ho8 hb8 hk8 _
      have HU8 := Lib.hid (show OwnVV w1.heap.size w8 v8 (VM.chn [] (ls.take (k + 1))) by rw [HC.out]; exact OwnVV.snoc HP2.out HP3.out ho8 hk8 (ownV_keepX HR7.out (by decide) hk8))
      have HZ8 := Lib.hid (show VX.OwnV w1.heap.size w8 (.slice a7 (VM.jn A x).length c7) (VM.acF [] (ls.take (k + 1))) by rw [HN.out]; exact ownV_keepX HR7.out (by decide) hk8)
      have HB8 := Lib.hid (HB7.out.trans hb8)
      clear ho8 hb8 hk8 hp1 hs2 hpl2 HP2 HP3 HR7 HB7
      go_wp2
      go_roundw
      case rel => exact ⟨k + 1, by omega, by go_num, HB8, HU8, HZ8⟩
      case measure => simp [intOf]; omega
    · have hq : ¬ ((k : Int) < (ls.length : Int)) := by omega
      obtain rfl : k = ls.length := by omega
      rw [List.take_length] at hu hz ⊢
      have HSV := Lib.hid (fun x (hx : x ∈ ls) => (HS.out.each x hx).2)
      have HCV := Lib.hid (VM.chn_val (a := []) trivial HSV.out)
      have HCN := Lib.hid (VM.chn_len (m := 30) (a := []) fun x hx => (HS.out.each x hx).1)
      have HCA := Lib.hid (VM.chn_all (a := []) trivial HSV.out)
      have hcl := VM.chn_length ls []
      have HCE := Lib.hid hcl
      have hn := HS.out.len
      have HQ := Lib.hid (ct.all (.slice none 0 0) _ [] _ wr (VX.RdV.nil _) hu.out.rd trivial (fun x hx => ⟨by have := HCN.out x hx; simp at this; omega, HCV.out x hx⟩) (by simp) (by omega))
      have hal := VM.acL_length (VM.chn [] ls) []
      rw [hcl] at hal
      generalize VM.chn [] ls = C at hu HCV HCN HCA HCE HQ hal
      have HAL := Lib.hid hal
      clear hn hcl hal hu hz HCV HCN
      go_wp2_with fail
      refine HQ.out.mono ?_
      rintro e w4 ⟨v4, l4, rfl, hr4, hl4, hb4⟩
      obtain ⟨va, vc, rfl, _, _⟩ := hr4.shape
      obtain ⟨ka, kc, rfl, _, _⟩ := hl4.shape
      have hal := HAL.out
      have hcl := HCE.out
      rw [hal] at hl4 ⊢
      rw [hcl]
      have HB4 := Lib.hid (bnext hbl.out hb4)
      clear HQ hb4 hbl hcl HCE
      obtain ⟨w5, hw5, hD, hb5⟩ := oneA w4 (.slice va (VM.acF [] C).length vc)
      have HK := Lib.hid (hl4.below hb5)
      have HB5 := Lib.hid (bnext HB4.out hb5)
      have HW := Lib.hid hw5
      have hne : ((ls.length : Int) != (ls.length : Int)) = false := by simp
      clear hr4 hl4 hw5 hD hb5 HB4 hal
      go_upto_region 11 with fail
      rw [HW.out]
      clear HW
      go_wp2
      go_loopw [8] (fun i wr => ∃ k : Nat, k ≤ ls.length ∧ i = .int .i64 k ∧ Hid (Below w1.heap.size w1 wr) ∧ Hid (RdBs wr (.slice ka ls.length kc) (VM.acL [] C))) (fun i _ => ls.length - (intOf i).toNat)
      case atStart => exact ⟨0, Nat.zero_le _, rfl, HB5, HK⟩
      case round =>
        obtain ⟨k, hk, rfl, hbl, hkk⟩ := hrel
        by_cases hlt : k < ls.length
        · have hq2 : (k : Int) < (ls.length : Int) := by omega
          have hbk : (VM.acL [] C)[k]? = some true := by
            have h1 := List.getElem?_eq_getElem (show k < (VM.acL [] C).length by rw [HAL.out]; exact hlt)
            rw [h1, HCA.out _ (List.getElem_mem _)]
          obtain ⟨b2, o2, hi2, _, f2⟩ := hkk.out.at_ boolE k _ hbk
          have e0 := f2 0 _ rfl
          rw [Nat.add_zero] at e0
          clear hbk f2
          go_wp2
          go_roundw
          case rel => exact ⟨k + 1, by omega, by go_num, hbl, hkk⟩
          case measure => simp [intOf]; omega
        · have hq2 : ¬ ((k : Int) < (ls.length : Int)) := by omega
          obtain rfl : k = ls.length := by omega
          have HQ := Lib.hid (cAwake15 ct wr)
          go_wp2_with fail
          refine HQ.out.mono ?_
          rintro e w9 ⟨rfl, hb9⟩
          have HB2 := Lib.hid (bnext hbl.out hb9)
          clear HQ hb9
          go_wp2
          go_ret
          exact ⟨rfl, bnext HB.out HB2.out⟩
end Go.Proofs.Ytnkeaphfheminaa
