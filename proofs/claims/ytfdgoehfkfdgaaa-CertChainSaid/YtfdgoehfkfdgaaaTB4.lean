/-
  The calls of package config: package sets' at its own kind. Conditions: what comes in reads; further ones at each. (Written by mk_sets.py.)
  The calls of package config that add, encode, decode: package sets' at its own kind. Conditions: what comes in reads; further ones at each. (Written by mk_sets.py.)
-/
import Derived.Test.YtfdgoehfkfdgaaaTB1
import Derived.Test.YtfdgoehfkfdgaaaTB2
import Derived.Test.YtfdgoehfkfdgaaaTB3
namespace Go.Proofs.Ytfdgoehfkfdgaaa
open Go.RowKit
open JM (Chg)
open CM (Fp)
open VM (Ent)

set_option maxRecDepth 100000 in
set_option maxHeartbeats 1000000 in
theorem gValidate (v : Value) (fs : List Fp) (w : World) (h : RdF w v fs) :
    Calls Try.prog 31 #[v] w fun e w' => e = .returned (.int .i64 (CM.errL (0, 0) fs)) ∧ Below w.heap.size w w' := by
  have HE := Lib.hid (cElements w)
  have HS := Lib.hid (fun w' (hb : Below w.heap.size w w') => sValidate v fs w' (h.below hb))
  obtain ⟨va, vc, rfl, _, _⟩ := h.shape
  clear h
  go_enter Try.func31, Try.ntmps31
  go_wp2_with fail
  refine HE.out.mono ?_
  rintro e w1 ⟨rfl, hb1⟩
  have HS1 := Lib.hid (HS.out w1 hb1)
  have HB1 := Lib.hid hb1
  clear HS HE hb1
  go_wp2_with fail
  refine HS1.out.mono ?_
  rintro e w2 ⟨rfl, hb2⟩
  have HB2 := Lib.hid (bnext HB1.out hb2)
  go_wp2
  go_ret
  exact ⟨rfl, HB2.out⟩

set_option maxRecDepth 100000 in
set_option maxHeartbeats 1000000 in
theorem gContains (va vb : Value) (xs ys : List Fp) (w : World) (ha : RdF w va xs) (hb : RdF w vb ys) (hs : CM.Srt xs) (hl : xs.length ≤ 1000) :
    Calls Try.prog 39 #[va, vb] w fun e w' => e = .returned (.bool (CM.cons xs ys)) ∧ Below w.heap.size w w' := by
  have HE := Lib.hid (cElements w)
  have HS := Lib.hid (fun w' (hb' : Below w.heap.size w w') => sContains va vb xs ys w' (ha.below hb') (hb.below hb') hs hl)
  obtain ⟨vaa, vac, rfl, _, _⟩ := ha.shape
  obtain ⟨vba, vbc, rfl, _, _⟩ := hb.shape
  clear ha hb hs hl
  go_enter Try.func39, Try.ntmps39
  go_wp2_with fail
  refine HE.out.mono ?_
  rintro e w1 ⟨rfl, hb1⟩
  have HS1 := Lib.hid (HS.out w1 hb1)
  have HB1 := Lib.hid hb1
  clear HS HE hb1
  go_wp2_with fail
  refine HS1.out.mono ?_
  rintro e w2 ⟨rfl, hb2⟩
  have HB2 := Lib.hid (bnext HB1.out hb2)
  go_wp2
  go_ret
  exact ⟨rfl, HB2.out⟩

set_option maxRecDepth 100000 in
set_option maxHeartbeats 1000000 in
theorem gUnionO (va vb : Value) (xs ys : List Fp) (w : World) (ha : RdF w va xs) (hb : RdF w vb ys) (hlx : xs.length ≤ 1000) (hly : ys.length ≤ 1000) (hcx : ∀ f ∈ xs, f.2.2.length ≤ 1073741824) (hcy : ∀ f ∈ ys, f.2.2.length ≤ 1073741824) :
    Calls Try.prog 66 #[va, vb] w fun e w' => ∃ v', e = .returned v' ∧ OwnD w.heap.size w' v' (CM.un xs ys) ∧ Below w.heap.size w w' := by
  have HE := Lib.hid (cElements w)
  have HS := Lib.hid (fun w' (hb' : Below w.heap.size w w') => sUnion va vb xs ys w' (ha.below hb') (hb.below hb') hlx hly hcx hcy)
  obtain ⟨vaa, vac, rfl, _, _⟩ := ha.shape
  obtain ⟨vba, vbc, rfl, _, _⟩ := hb.shape
  clear ha hb hlx hly hcx hcy
  go_enter Try.func66, Try.ntmps66
  go_wp2_with fail
  refine HE.out.mono ?_
  rintro e w1 ⟨rfl, hb1⟩
  have HS1 := Lib.hid (HS.out w1 hb1)
  have HB1 := Lib.hid hb1
  clear HS HE hb1
  go_wp2_with fail
  refine HS1.out.mono ?_
  rintro e w2 ⟨v', rfl, ho2, hb2⟩
  have HO2 := Lib.hid (OwnD.mono ho2 HB1.out.size)
  have HB2 := Lib.hid (bnext HB1.out hb2)
  clear ho2
  go_wp2
  go_ret
  exact ⟨_, rfl, HO2.out, HB2.out⟩

theorem gUnion (va vb : Value) (xs ys : List Fp) (w : World) (ha : RdF w va xs) (hb : RdF w vb ys) (hlx : xs.length ≤ 1000) (hly : ys.length ≤ 1000) (hcx : ∀ f ∈ xs, f.2.2.length ≤ 1073741824) (hcy : ∀ f ∈ ys, f.2.2.length ≤ 1073741824) :
    Calls Try.prog 66 #[va, vb] w fun e w' => ∃ v', e = .returned v' ∧ RdF w' v' (CM.un xs ys) ∧ Below w.heap.size w w' :=
  (gUnionO va vb xs ys w ha hb hlx hly hcx hcy).mono (by rintro e w' ⟨v', h1, h2, h3⟩; exact ⟨v', h1, h2.rd, h3⟩)

end Go.Proofs.Ytfdgoehfkfdgaaa

namespace Go.Proofs.Ytfdgoehfkfdgaaa
open Go.RowKit
open JM (Chg)
open CM (Fp)
open VM (Ent)

set_option maxRecDepth 100000 in
set_option maxHeartbeats 1000000 in
theorem gAppendC (v : Value) (bs : List Int) (u : Value) (fs : List Fp) (w : World) (h : Rd w v bs) (hu : RdF w u fs) (hok : CM.Ok fs) (hlen : bs.length ≤ 1000000) :
    Calls Try.prog 54 #[v, u] w fun e w' => ∃ v', e = .returned v' ∧ Own w.heap.size w' v' (bs ++ CM.encL fs) ∧ Below w.heap.size w w' := by
  have HE := Lib.hid (cElements w)
  have HS := Lib.hid (fun w' (hb : Below w.heap.size w w') => sAppend v bs u fs w' (h.below hb) (hu.below hb) hok hlen)
  obtain ⟨va, vc, rfl, _⟩ := h.shape
  obtain ⟨ua, uc, rfl, _, _⟩ := hu.shape
  clear h hu hok
  go_enter Try.func54, Try.ntmps54
  go_wp2_with fail
  refine HE.out.mono ?_
  rintro e w1 ⟨rfl, hb1⟩
  have HS1 := Lib.hid (HS.out w1 hb1)
  have HB1 := Lib.hid hb1
  clear HS HE hb1
  go_wp2_with fail
  refine HS1.out.mono ?_
  rintro e w2 ⟨v', rfl, ho2, hb2⟩
  have HO2 := Lib.hid (ho2.mono HB1.out.size)
  have HB2 := Lib.hid (bnext HB1.out hb2)
  clear ho2
  go_wp2
  go_ret
  exact ⟨_, rfl, HO2.out, HB2.out⟩

set_option maxRecDepth 100000 in
set_option maxHeartbeats 1000000 in
theorem gDecodeC (v : Value) (xs : List Int) (w : World) (h : Rd w v xs) :
    Calls Try.prog 52 #[v] w fun e w' => ∃ v', e = .returned (.tuple #[v', .int .i64 ((CM.decL xs).2.1 : Int), .int .i64 (CM.decL xs).1]) ∧ RdF w' v' (CM.decL xs).2.2 ∧ Below w.heap.size w w' := by
  have HE := Lib.hid (cElements w)
  have HS := Lib.hid (fun w' (hb : Below w.heap.size w w') => sDecode v xs w' (h.below hb))
  obtain ⟨va, vc, rfl, _⟩ := h.shape
  clear h
  go_enter Try.func52, Try.ntmps52
  go_wp2_with fail
  refine HE.out.mono ?_
  rintro e w1 ⟨rfl, hb1⟩
  have HS1 := Lib.hid (HS.out w1 hb1)
  have HB1 := Lib.hid hb1
  clear HS HE hb1
  go_wp2_with fail
  refine HS1.out.mono ?_
  rintro e w2 ⟨v', rfl, ho2, hb2⟩
  have HO2 := Lib.hid ho2
  have HB2 := Lib.hid (bnext HB1.out hb2)
  clear ho2
  go_wp2
  go_ret3
  exact ⟨_, rfl, HO2.out, HB2.out⟩

end Go.Proofs.Ytfdgoehfkfdgaaa
