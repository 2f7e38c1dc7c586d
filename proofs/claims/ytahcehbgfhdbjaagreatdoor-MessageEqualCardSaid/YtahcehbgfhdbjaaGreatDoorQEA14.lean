/-
  Messages whose slices are the call's own; what a message's block is behind each store; how far readers come; what readExchange and readRest read, as one equation. No conditions beyond those that each lemma names.
  The call of the reference's readExchange. Conditions: what comes in reads. (Written by mk_nref2.py.)
  The call of the reference's readRest. Conditions: what comes in reads. (Written by mk_nref2.py.)
  The calls of message.readUpdates and readVector: what the plain mathematics reads, of the call's own. Conditions: the reader's block is as it is said; the input reads as bytes; the tables of unicode/utf8 are laid.
  What a statement's reading tells of a certificate that came in. No conditions.
  The calls of the reference's Agree and of the laws' ValidStates. Conditions: the states read. (Written by mk_sref.py.)
  What a statement's reading tells of states, lists of updates and vectors that came in. No conditions beyond those that each lemma names.
  What a statement's reading tells of a message that came in. No conditions.
  The calls of message.fields, slices.Contains and slices.Index over fields. Conditions: the kind is an int's value; the list reads.
-/
import Derived.Test.YtahcehbgfhdbjaaGreatDoorQEA12
import Derived.Test.YtahcehbgfhdbjaaGreatDoorQEA5
import Derived.Test.YtahcehbgfhdbjaaGreatDoorQEA13
import Derived.Test.YtahcehbgfhdbjaaGreatDoorQEA9
import Derived.Test.YtahcehbgfhdbjaaGreatDoorQEA1
import Derived.Test.YtahcehbgfhdbjaaGreatDoorQEKG
import Derived.ChangeSame
import Derived.Test.YtahcehbgfhdbjaaGreatDoorQEA6
import Derived.Test.YtahcehbgfhdbjaaGreatDoorQEA4
import Derived.Deep.SlicePairs
import Derived.Maps.OwnSet
import Derived.Test.YtahcehbgfhdbjaaGreatDoorQEKE
import Derived.Test.YtahcehbgfhdbjaaGreatDoorQEA11
namespace Go.Proofs.YtahcehbgfhdbjaaGreatDoor
open Go.RowKit
open NM (Ms)
open VM (Ent)
open JM (Chg)

theorem VX.OwnV.only {base : Nat} {w w' : World} {v : Value} {ys : List Ent} {g : Nat} (h : VX.OwnV base w v ys) (ho : Only g w w') (hg : g < base) : VX.OwnV base w' v ys := by
  refine ⟨h.1, ?_⟩
  rcases h.2 with h6 | ⟨gg, cap, cur', hv, hgg, hh, r⟩
  · exact .inl h6
  · exact .inr ⟨gg, cap, cur', hv, hgg, ho.at hh (by omega), r⟩
theorem ST.OwnR.mono {base b2 : Nat} {w : World} {v : Value} {fs : List SM.Fp} (h : ST.OwnR base w v fs) (hle : b2 ≤ base) : ST.OwnR b2 w v fs := by
  obtain ⟨qs, h1, h2⟩ := h
  refine ⟨qs, h1.mono hle, ?_⟩
  clear h1
  induction qs generalizing fs with
  | nil => cases fs with
    | nil => trivial
    | cons f l => exact h2.elim
  | cons q l ih => cases fs with
    | nil => exact h2.elim
    | cons f r => exact ⟨⟨h2.1.1, h2.1.2.1, h2.1.2.2.1, h2.1.2.2.2.mono hle⟩, ih h2.2⟩

/-- A message's slices are the call's own. -/
structure OwnMs (base : Nat) (w : World) (x : Mv) (m : Ms) : Prop where
  cf : OwnR base w x.cf m.cf
  ct : OwnR base w x.ct m.ct
  bf : OwnR base w x.bf m.bf
  bt : OwnR base w x.bt m.bt
  ef : OwnR base w x.ef m.ef
  et : OwnR base w x.et m.et
  cg : OwnR base w x.cg m.cg
  st : ST.OwnR base w x.st m.st
  hv : VX.OwnV base w x.hv m.hv
theorem OwnMs.rd {base : Nat} {w : World} {x : Mv} {m : Ms} (h : OwnMs base w x m) : RdMs w x m :=
  ⟨h.cf.rd, h.ct.rd, h.bf.rd, h.bt.rd, h.ef.rd, h.et.rd, h.cg.rd, h.st.rd, h.hv.rd⟩
theorem OwnMs.below {base : Nat} {w w' : World} {x : Mv} {m : Ms} (h : OwnMs base w x m) (hb : Below w.heap.size w w') : OwnMs base w' x m :=
  ⟨h.cf.below hb, h.ct.below hb, h.bf.below hb, h.bt.below hb, h.ef.below hb, h.et.below hb, h.cg.below hb, h.st.below hb, h.hv.below hb⟩
theorem OwnMs.only {base g : Nat} {w w' : World} {x : Mv} {m : Ms} (h : OwnMs base w x m) (ho : Only g w w') (hg : g < base) : OwnMs base w' x m :=
  ⟨h.cf.only ho hg, h.ct.only ho hg, h.bf.only ho hg, h.bt.only ho hg, h.ef.only ho hg, h.et.only ho hg, h.cg.only ho hg, h.st.only ho hg, h.hv.only ho hg⟩
theorem OwnMs.nil {base : Nat} {w : World} {m : Ms} (h : m.cf = [] ∧ m.ct = [] ∧ m.bf = [] ∧ m.bt = [] ∧ m.ef = [] ∧ m.et = [] ∧ m.cg = [] ∧ m.st = [] ∧ m.hv = []) : OwnMs base w (⟨.slice none 0 0, .slice none 0 0, .slice none 0 0, .slice none 0 0, .slice none 0 0, .slice none 0 0, .slice none 0 0, .slice none 0 0, .slice none 0 0⟩ : Mv) m := by
  obtain ⟨h1, h2, h3, h4, h5, h6, h7, h8, h9⟩ := h
  exact ⟨by rw [h1]; exact OwnR.nil _ w, by rw [h2]; exact OwnR.nil _ w, by rw [h3]; exact OwnR.nil _ w, by rw [h4]; exact OwnR.nil _ w, by rw [h5]; exact OwnR.nil _ w, by rw [h6]; exact OwnR.nil _ w, by rw [h7]; exact OwnR.nil _ w, by rw [h8]; exact ST.OwnR.nil _ w, by rw [h9]; exact VX.OwnV.nil _ w⟩
section
variable {w : World} {g : Nat} {m : Ms} {x : Mv}
theorem MB.setAcc (h : MB w g m x) (p n : Int) : MB ((w.setCell ⟨g, 3, none⟩ (.int .i64 p)).setCell ⟨g, 4, none⟩ (.int .i64 n)) g { m with p := p, n := n } x := by
  have h1 : (w.setCell ⟨g, 3, none⟩ (.int .i64 p)).heap[g]? = some (.cells (mcell { m with p := p } x) 33 (0, 0)) := heap_setCell_same w g 3 _ _ _ h
  exact heap_setCell_same _ g 4 _ _ _ h1
theorem MB.setRnd (h : MB w g m x) (r : Int) : MB (w.setCell ⟨g, 5, none⟩ (.int .i64 r)) g { m with r := r } x := heap_setCell_same w g 5 _ _ _ h
theorem MB.setMod (h : MB w g m x) (d : Int) : MB (w.setCell ⟨g, 6, none⟩ (.int .i64 d)) g { m with d := d } x := heap_setCell_same w g 6 _ _ _ h
theorem MB.setCert (h : MB w g m x) (cf ct : List CM.Fp) (a b : Value) : MB ((w.setCell ⟨g, 7, none⟩ a).setCell ⟨g, 8, none⟩ b) g { m with cf := cf, ct := ct } { x with cf := a, ct := b } := by
  have h1 : (w.setCell ⟨g, 7, none⟩ a).heap[g]? = some (.cells (mcell { m with cf := cf } { x with cf := a }) 33 (0, 0)) := heap_setCell_same w g 7 _ _ _ h
  exact heap_setCell_same _ g 8 _ _ _ h1
theorem MB.setHv (h : MB w g m x) (hv : List Ent) (a : Value) : MB (w.setCell ⟨g, 16, none⟩ a) g { m with hv := hv } { x with hv := a } := heap_setCell_same w g 16 _ _ _ h
end

namespace NM
theorem drop_bytes {xs : List Int} (hb : WM.Bytes xs) (u : Nat) : WM.Bytes (xs.drop u) := fun c hc => hb c (List.mem_of_mem_drop hc)
theorem bl_used (xs : List Int) : (bl xs).2.1 ≤ xs.length := by
  unfold bl
  rcases decB_two xs with ⟨e, he, hd⟩ | ⟨b, hd, hl⟩
  · rw [hd]; exact Nat.zero_le _
  · rw [hd]; exact hl
/-- A parser reads no more than there is. -/
def Used {α : Type} (P : Par α) : Prop := ∀ xs, WM.Bytes xs → (P xs).2.1 ≤ xs.length
theorem used_bl : Used bl := fun xs _ => bl_used xs
section
variable {k fr tx : Int} {xs l : List Int} {u0 u1 u2 u3 : Nat} {e1 e2 e3 : Int} {cg : List CM.Fp} {st : List SM.Fp} {b : Bs}
end
end NM
end Go.Proofs.YtahcehbgfhdbjaaGreatDoor

namespace Go.Proofs.YtahcehbgfhdbjaaGreatDoor
open Go.RowKit
open NM (Ms)
open VM (Ent)
end Go.Proofs.YtahcehbgfhdbjaaGreatDoor

namespace Go.Proofs.YtahcehbgfhdbjaaGreatDoor
open Go.RowKit
open NM (Ms)
open VM (Ent)

/-- An entry's cells. -/
def encEn (e : Ent) : List Value := [.int .i64 e.1, .int .i64 e.2]
theorem hlEn : 0 < 2 ∧ ∀ x : Ent, (encEn x).length = 2 := ⟨by decide, fun _ => rfl⟩
theorem entHv : IsElem Tryz.prog 31 110 2 16 encEn where
  ht := Tryz.underlying31
  info := by
    obtain ⟨i0, hi, hz0, hz1, hz2⟩ := info_parts (show (Tryz.prog.info? 110).map (fun i => (i.zero, i.size, i.bytes)) = some (some (.agg #[.int .i64 0, .int .i64 0]), 2, 16) by kernel_rfl)
    exact ⟨i0, _, hi, hz0, hz1, hz2, rfl⟩
  len := fun _ => rfl
  one := by intro x u hu; simp [encEn] at hu; rcases hu with rfl | rfl <;> rfl
  pos := by decide
  fits := by decide
abbrev OwnHv := OwnG encEn 110 2
theorem ents_cellsH (xs : List Ent) : VX.ents xs = cellsOf encEn xs := by
  induction xs with
  | nil => rfl
  | cons x l ih => unfold cellsOf at ih ⊢; rw [List.flatMap_cons, ← ih]; rfl
theorem ownV_of {base : Nat} {w : World} {v : Value} {xs : List Ent} (h : OwnHv base w v xs) : VX.OwnV base w v xs := by
  unfold VX.OwnV
  rw [ents_cellsH]
  exact h.1
namespace NM
section
variable {xs l : List Int} {u0 u1 u2 m : Nat} {e : Int}
end
end NM

end Go.Proofs.YtahcehbgfhdbjaaGreatDoor

namespace Go.Proofs.YtahcehbgfhdbjaaGreatDoor
open Go.RowKit
open JM (St)
open VM (Ent)
open WM (enc dec Bytes)

theorem cnt_nat {xs : List Int} {s : St} (hb : Bytes xs) (hu : s.1 ≤ xs.length) (most : Nat) : ∃ N : Nat, N ≤ most ∧ (NM.cnt most xs s).1 = (N : Int) ∧ (NM.cnt most xs s).2.1 ≤ xs.length := by
  have h := JM.step_small xs s hb hu
  unfold JM.small at h
  unfold NM.cnt
  by_cases hm : (most : Int) < (JM.step xs s).1
  · rw [if_pos hm]; exact ⟨0, Nat.zero_le _, rfl, h.2⟩
  · rw [if_neg hm]; exact ⟨(JM.step xs s).1.toNat, by omega, by omega, h.2⟩
theorem stpU_used {xs : List Int} {s : St} (hb : Bytes xs) (hu : s.1 ≤ xs.length) : (NM.stp NM.decUp NM.upZ xs s).2.1 ≤ xs.length := by
  unfold NM.stp
  split
  · exact hu
  · have := UM.decU_used (xs := xs.drop s.1) (fun c hc => hb c (List.mem_of_mem_drop hc))
    rw [List.length_drop] at this
    show s.1 + (UM.decU (xs.drop s.1)).2.1 ≤ _
    omega

set_option maxRecDepth 100000 in
set_option maxHeartbeats 4000000 in
theorem rdUpds (W : World) (g : Nat) (v : Value) (xs : List Int) (s : St) (w : World) (hT : Tb W) (hb : RdrB w g v s) (h : Rd W v xs) (hW : Below W.heap.size W w) (hg : W.heap.size ≤ g) (hu : s.1 ≤ xs.length) :
    Calls Tryz.prog 89 #[.pointer (some ⟨g, 0, none⟩)] w fun e w' => ∃ a, e = .returned a ∧ ST.OwnR w.heap.size w' a (NM.updR xs s).1 ∧ RdrB w' g v (NM.updR xs s).2 ∧ Only g w w' := by
  have hgl : g < w.heap.size := (Array.getElem?_eq_some_iff.1 hb).1
  have hC := rdCountM 48 g v xs s w hb (h.below hW) hu
  obtain ⟨N, hN, hc1, hc2⟩ := cnt_nat h.bytes hu 48
  have hc1 : (NM.cnt 48 xs s).1 = (N : Int) := hc1
  have hc2 : (NM.cnt 48 xs s).2.1 ≤ xs.length := hc2
  obtain ⟨R, hR⟩ : ∃ R, R = NM.updR xs s := ⟨_, rfl⟩
  rw [← hR]
  unfold NM.updR at hR
  rw [hc1, Int.toNat_natCast] at hR
  rw [hc1] at hC
  generalize (NM.cnt 48 xs s).2 = s1 at hC hc2 hR
  have HR := Lib.hid hR
  have HL := Lib.hid hc2
  have HC := Lib.hid hC
  have HBY := Lib.hid h.bytes
  have HU : Hid (∀ (s : St) (w' : World), RdrB w' g v s → s.1 ≤ xs.length → Below W.heap.size W w' → Calls Tryz.prog 130 #[.pointer (some ⟨g, 0, none⟩), .func (.func 131) #[] #[]] w' fun e w'' => ∃ a, e = .returned (uv (NM.stp NM.decUp NM.upZ xs s).1.1 (NM.stp NM.decUp NM.upZ xs s).1.2.1 (NM.stp NM.decUp NM.upZ xs s).1.2.2.1 a) ∧ OwnEf w'.heap.size w'' a (NM.stp NM.decUp NM.upZ xs s).1.2.2.2 ∧ RdrB w'' g v (NM.stp NM.decUp NM.upZ xs s).2 ∧ Only g w' w'') :=
    fun s w' hr hu' q => rdUpd g v xs s w' (hT.below q) hr (h.below q) hu'
  have HWB := Lib.hid hW
  have HGW := Lib.hid hg
  have HGL := Lib.hid hgl
  clear hT hb h hW hg hu hgl hC hc1 hc2 hR
  go_enter Tryz.func89, Tryz.ntmps89
  go_wp2_with fail
  refine HC.out.mono ?_
  rintro e w1 ⟨rfl, hr, ho⟩
  have HRB := Lib.hid hr
  have HON := Lib.hid ho
  clear HC hr ho
  go_wp2
  go_loopw [3, 6] (fun c i wr => ∃ (k : Nat) (qs : List Up) (U : List SM.Fp) (s2 : St), k ≤ N ∧ i = .int .i64 k ∧ Hid (U.length ≤ k) ∧ Hid (OwnUp w.heap.size wr c qs) ∧ Hid (ST.TelO w.heap.size wr qs U) ∧ Hid (RdrB wr g v s2) ∧ Hid (s2.1 ≤ xs.length) ∧ Hid (Only g w wr) ∧ Hid (R = NM.ups xs (N - k) U s2)) (fun _ i _ => N - (intOf i).toNat)
  case atStart => exact ⟨0, [], [], s1, Nat.zero_le _, rfl, Nat.le_refl _, OwnG.nil hlUp _ _ _, trivial, HRB.out, HL.out, HON.out, HR.out⟩
  case round =>
    obtain ⟨k, qs, U, s2, hk, rfl, hul, ho, ht, hrb, hu2, hon, he⟩ := hrel
    clear HR HL HRB HON
    obtain ⟨c1, c2, rfl, hc2, _⟩ := ho.out.rd.shape
    have HQF := Lib.hid ht.out.rd.len
    by_cases hlt : k < N
    · have hq : (k : Int) < (N : Int) := by omega
      have e1 : R = NM.ups xs (N - (k + 1)) (U ++ [(NM.stp NM.decUp NM.upZ xs s2).1]) (NM.stp NM.decUp NM.upZ xs s2).2 := by
        rw [he.out, show N - k = N - (k + 1) + 1 by omega]; rfl
      have hus := stpU_used (s := s2) HBY.out hu2.out
      have hD := HU.out s2 wr hrb.out hu2.out (seen HWB.out HGW.out hon.out)
      generalize NM.stp NM.decUp NM.upZ xs s2 = d at hD hus e1
      obtain ⟨⟨a, n, t, cs⟩, s3⟩ := d
      dsimp only at hD hus e1
      have HD := Lib.hid hD
      have E1 := Lib.hid e1
      have HUS := Lib.hid hus
      clear he hD hus e1 hrb hu2
      go_wp2_with fail
      refine HD.out.mono ?_
      rintro e w2 ⟨sv, rfl, hos, hr2, ho2⟩
      obtain ⟨sa, sc, rfl, _, _⟩ := hos.rd.shape
      have hox := OwnG.only ho.out ho2 HGL.out
      have HTX := Lib.hid (ST.TelO.snoc (f := (a, n, t, cs)) (q := (a, n, t, sa, cs.length, sc)) ⟨rfl, rfl, rfl, OwnG.mono hos hon.out.size⟩ (ST.TelO.only ho2 HGL.out ht.out))
      have HBX := Lib.hid (hon.out.trans ho2)
      have HRX := Lib.hid hr2
      have hsx := HBX.out.size
      have hlq : qs.length ≤ 1073741824 := by have := hul.out; have := HQF.out; omega
      have HUL := Lib.hid (show (U ++ [(a, n, t, cs)]).length ≤ k + 1 by rw [List.length_append]; have := hul.out; simp; omega)
      clear hos hr2 ho2 ho ht hon HD hul
      go_wp2_with (at_builtin; refine wp_appG1' upE (a, n, t, sa, cs.length, sc) _ rfl rfl _ _ rfl rfl hox rfl hlq hsx ?_)
      intro v3 w3 ho3 hb3 hk3
      have HO3 := Lib.hid ho3
      have HB3 := Lib.hid (show Only g w w3 from ⟨hb3.os.trans HBX.out.os, hb3.tape.trans HBX.out.tape, hb3.output.trans HBX.out.output, Nat.le_trans HBX.out.size hb3.size, fun i hi hne => (hb3.block i hi).trans (HBX.out.block i hi hne)⟩)
      have HT3 := Lib.hid (ST.TelO.keep hk3 HTX.out)
      have HR3 := Lib.hid (RdrB.keep HRX.out (by decide) hk3)
      clear ho3 hb3 hk3 hox HTX HBX HRX hsx hlq
      go_wp2
      go_roundw
      case rel => exact ⟨k + 1, _, _, s3, by omega, by go_num, HUL, HO3, HT3, HR3, HUS, HB3, E1⟩
      case measure => simp [intOf]; omega
    · have hq : ¬ ((k : Int) < (N : Int)) := by omega
      obtain rfl : k = N := by omega
      have E1 := Lib.hid (show R = (U, s2) by rw [he.out, Nat.sub_self]; rfl)
      have HF := Lib.hid (show ST.OwnR w.heap.size wr (.slice c1 qs.length c2) U from ⟨qs, ho.out, ht.out⟩)
      clear he ho ht
      go_wp2
      go_ret
      exact ⟨_, rfl, by rw [E1.out]; exact HF.out, by rw [E1.out]; exact hrb.out, hon.out⟩

set_option maxRecDepth 100000 in
set_option maxHeartbeats 4000000 in
theorem rdVec (W : World) (g : Nat) (v : Value) (xs : List Int) (s : St) (w : World) (hb : RdrB w g v s) (h : Rd W v xs) (hW : Below W.heap.size W w) (hg : W.heap.size ≤ g) (hu : s.1 ≤ xs.length) :
    Calls Tryz.prog 90 #[.pointer (some ⟨g, 0, none⟩)] w fun e w' => ∃ a, e = .returned a ∧ OwnHv w.heap.size w' a (NM.vecR xs s).1 ∧ RdrB w' g v (NM.vecR xs s).2 ∧ Only g w w' := by
  have hgl : g < w.heap.size := (Array.getElem?_eq_some_iff.1 hb).1
  have hC := rdCountM 100 g v xs s w hb (h.below hW) hu
  obtain ⟨N, hN, hc1, hc2⟩ := cnt_nat h.bytes hu 100
  have hc1 : (NM.cnt 100 xs s).1 = (N : Int) := hc1
  have hc2 : (NM.cnt 100 xs s).2.1 ≤ xs.length := hc2
  obtain ⟨R, hR⟩ : ∃ R, R = NM.vecR xs s := ⟨_, rfl⟩
  rw [← hR]
  unfold NM.vecR at hR
  rw [hc1, Int.toNat_natCast] at hR
  rw [hc1] at hC
  generalize (NM.cnt 100 xs s).2 = s1 at hC hc2 hR
  have HR := Lib.hid hR
  have HL := Lib.hid hc2
  have HC := Lib.hid hC
  have HBY := Lib.hid h.bytes
  have HU : Hid (∀ (s : St) (w' : World), RdrB w' g v s → s.1 ≤ xs.length → Below W.heap.size W w' → Calls Tryz.prog 35 #[.pointer (some ⟨g, 0, none⟩)] w' fun e w'' => e = .returned (.int .i64 (JM.step xs s).1) ∧ RdrB w'' g v (JM.step xs s).2 ∧ Only g w' w'') :=
    fun s w' hr hu' q => rdNumber g v xs s w' hr (h.below q) hu'
  have HWB := Lib.hid hW
  have HGW := Lib.hid hg
  have HGL := Lib.hid hgl
  clear hb h hW hg hu hgl hC hc1 hc2 hR
  go_enter Tryz.func90, Tryz.ntmps90
  go_wp2_with fail
  refine HC.out.mono ?_
  rintro e w1 ⟨rfl, hr, ho⟩
  have HRB := Lib.hid hr
  have HON := Lib.hid ho
  clear HC hr ho
  go_wp2
  go_loopw [3, 6] (fun c i wr => ∃ (k : Nat) (V : List Ent) (s2 : St), k ≤ N ∧ i = .int .i64 k ∧ Hid (V.length ≤ k) ∧ Hid (OwnHv w.heap.size wr c V) ∧ Hid (RdrB wr g v s2) ∧ Hid (s2.1 ≤ xs.length) ∧ Hid (Only g w wr) ∧ Hid (R = NM.vecs xs (N - k) V s2)) (fun _ i _ => N - (intOf i).toNat)
  case atStart => exact ⟨0, [], s1, Nat.zero_le _, rfl, Nat.le_refl _, OwnG.nil hlEn _ _ _, HRB.out, HL.out, HON.out, HR.out⟩
  case round =>
    obtain ⟨k, V, s2, hk, rfl, hul, ho, hrb, hu2, hon, he⟩ := hrel
    clear HR HL HRB HON
    obtain ⟨c1, c2, rfl, hc2, _⟩ := ho.out.rd.shape
    by_cases hlt : k < N
    · have hq : (k : Int) < (N : Int) := by omega
      have e1 : R = NM.vecs xs (N - (k + 1)) (V ++ [((JM.step xs s2).1, (JM.step xs (JM.step xs s2).2).1)]) (JM.step xs (JM.step xs s2).2).2 := by
        rw [he.out, show N - k = N - (k + 1) + 1 by omega]; rfl
      have hus := (JM.step_small xs s2 HBY.out hu2.out).2
      have hus2 := (JM.step_small xs (JM.step xs s2).2 HBY.out hus).2
      have hD := HU.out s2 wr hrb.out hu2.out (seen HWB.out HGW.out hon.out)
      have hD2 := fun w' => HU.out (JM.step xs s2).2 w'
      generalize JM.step xs s2 = d at hD hD2 hus hus2 e1
      obtain ⟨a, s3⟩ := d
      dsimp only at hD hD2 hus hus2 e1
      generalize JM.step xs s3 = d at hD2 hus2 e1
      obtain ⟨b, s4⟩ := d
      dsimp only at hD2 hus2 e1
      have HD := Lib.hid hD
      have HD2 := Lib.hid hD2
      have E1 := Lib.hid e1
      have HUS := Lib.hid hus
      have HUS2 := Lib.hid hus2
      clear he hD hD2 hus hus2 e1 hrb hu2
      go_wp2_with fail
      refine HD.out.mono ?_
      rintro e w2 ⟨rfl, hr2, ho2⟩
      have HR2 := Lib.hid hr2
      have HN2 := Lib.hid (hon.out.trans ho2)
      have HO2 := Lib.hid (OwnG.only ho.out ho2 HGL.out)
      clear hr2 ho2 ho hon HD
      go_wp2_with fail
      refine (HD2.out w2 HR2.out HUS.out (seen HWB.out HGW.out HN2.out)).mono ?_
      rintro e w3 ⟨rfl, hr3, ho3⟩
      have hox := OwnG.only HO2.out ho3 HGL.out
      have HBX := Lib.hid (HN2.out.trans ho3)
      have HRX := Lib.hid hr3
      have hsx := HBX.out.size
      have hlq : V.length ≤ 1073741824 := by have := hul.out; omega
      have HUL := Lib.hid (show (V ++ [(a, b)]).length ≤ k + 1 by rw [List.length_append]; have := hul.out; simp; omega)
      clear hr3 ho3 HO2 HR2 HN2 HD2 hul
      go_wp2_with (at_builtin; refine wp_appG1' entHv (a, b) _ rfl rfl _ _ rfl rfl hox rfl hlq hsx ?_)
      intro v3 w4 ho3 hb3 hk3
      have HO3 := Lib.hid ho3
      have HB3 := Lib.hid (show Only g w w4 from ⟨hb3.os.trans HBX.out.os, hb3.tape.trans HBX.out.tape, hb3.output.trans HBX.out.output, Nat.le_trans HBX.out.size hb3.size, fun i hi hne => (hb3.block i hi).trans (HBX.out.block i hi hne)⟩)
      have HR3 := Lib.hid (RdrB.keep HRX.out (by decide) hk3)
      clear ho3 hb3 hk3 hox HBX HRX hsx hlq
      go_wp2
      go_roundw
      case rel => exact ⟨k + 1, _, s4, by omega, by go_num, HUL, HO3, HR3, HUS2, HB3, E1⟩
      case measure => simp [intOf]; omega
    · have hq : ¬ ((k : Int) < (N : Int)) := by omega
      obtain rfl : k = N := by omega
      have E1 := Lib.hid (show R = (V, s2) by rw [he.out, Nat.sub_self]; rfl)
      have HF := Lib.hid ho.out
      clear he ho
      go_wp2
      go_ret
      exact ⟨_, rfl, by rw [E1.out]; exact HF.out, by rw [E1.out]; exact hrb.out, hon.out⟩

end Go.Proofs.YtahcehbgfhdbjaaGreatDoor

namespace Go.Proofs.YtahcehbgfhdbjaaGreatDoor
open Go.ChangeShapes Go.WideShapes Go.ChangeAt Go.RowKit
open JM (Chg)
open CM (Fp)

section
variable {H : Type} {enc : TypeId × Value → H} {W : World}
end
end Go.Proofs.YtahcehbgfhdbjaaGreatDoor

namespace Go.Proofs.YtahcehbgfhdbjaaGreatDoor.ST
open Go.RowKit Go.Joins
open UM (Ef)
open SM (Fp)

/-- What the laws' Valid says of two configurations. -/
def valid2 (xs ys : List Fp) : Bool := decide (SM.errL (0, 0) xs = 0) && (decide (SM.errL (0, 0) ys = 0) && SM.agr ys xs)
end Go.Proofs.YtahcehbgfhdbjaaGreatDoor.ST

namespace Go.Proofs.YtahcehbgfhdbjaaGreatDoor.ST
set_option maxRecDepth 100000
open Go.ChangeShapes Go.WideShapes Go.ChangeAt Go.RowKit
open UM (Ef)
open SM (Fp)
open VM (Ent)

/-- The effects' fields are what the model allows. -/
def FitE (fs : List Fp) : Prop := ∀ f ∈ fs, ∀ e ∈ f.2.2.2, EfFit e
theorem FitE.n {fs : List Fp} (h : FitE fs) : FitN fs := fun f hf e he => ⟨(h f hf e he).2.1, (h f hf e he).2.2.1⟩
theorem FitE.i {fs : List Fp} (h : FitE fs) : SM.Fit fs := fun f hf e he => (h f hf e he).1

section
variable {H : Type} {enc : TypeId × Value → H} {W : World} {n : Nat} {x : DataW H × List MemPlace}

/-- The four cells of an update. -/
theorem upd_cells {cs : List Value} (h : DataW.trod enc Tryz.prog W 0 (fun _ => true) true n 96 cs = some x) : ∃ (q : Up) (f : Fp), cs = encUp q ∧ Tell1 W q f ∧ ∀ e ∈ f.2.2.2, EfFit e := by
  have k0 : Tryz.prog.cellsOf 3 = 1 := by kernel_rfl
  have k1 : Tryz.prog.cellsOf 94 = 1 := by kernel_rfl
  have k4 : Tryz.prog.cellsOf 96 = 4 := by kernel_rfl
  obtain ⟨xs, m, _, _, hl, hlen, hf⟩ := DataW.trod_struct Tryz.underlying96 h
  rw [k4] at hl
  match xs, hlen, cs, hl with
  | [y0, y1, y2, y3], _, [c0, c1, c2, c3], _ =>
    have g0 := hf 0 _ rfl
    have g1 := hf 1 _ rfl
    have g2 := hf 2 _ rfl
    have g3 := hf 3 _ rfl
    simp [k0, k1] at g0 g1 g2 g3
    obtain ⟨a, ha, _⟩ := DataW.trod_int Tryz.underlying3 g0
    obtain ⟨b, hb, _⟩ := DataW.trod_int Tryz.underlying3 g1
    obtain ⟨c, hc, _⟩ := DataW.trod_int Tryz.underlying3 g2
    obtain ⟨es, he, hfit⟩ := rdEf_of_trod g3
    simp at ha hb hc
    obtain ⟨sa, sc, hsv, _, _⟩ := he.shape
    rw [hsv] at he
    exact ⟨(a, b, c, sa, es.length, sc), (a, b, c, es), by rw [ha, hb, hc, hsv]; rfl, ⟨rfl, rfl, rfl, he⟩, hfit⟩
theorem cellsU_snoc {xs : List Up} {e : Up} {j : Nat} {u : Value} (h : (cellsOf encUp (xs ++ [e]))[j]? = some u) :
    (cellsOf encUp xs)[j]? = some u ∨ ∃ d, d < 4 ∧ j = xs.length * 4 + d ∧ (encUp e)[d]? = some u := by
  have hL := cellsOf_length (enc := encUp) hlUp.2 xs
  rw [cellsOf_append] at h
  rcases Nat.lt_or_ge j (cellsOf encUp xs).length with hl | hl
  · rw [List.getElem?_append_left hl] at h
    exact .inl h
  · rw [List.getElem?_append_right hl, hL] at h
    rw [hL] at hl
    have e1 : cellsOf encUp [e] = encUp e := by simp [cellsOf]
    rw [e1] at h
    have hd : j - xs.length * 4 < 4 := by
      have := (List.getElem?_eq_some_iff.1 h).1
      rw [hlUp.2 e] at this; exact this
    exact .inr ⟨_, hd, by omega, h⟩

/-- What came in as a list of updates: what it holds, and that the effects' fields are what the model allows. -/
theorem rdF_of_trod {v : Value} (hf : DataW.trod enc Tryz.prog W 0 (fun _ => true) true n 29 [v] = some x) : ∃ fs, RdF W v fs ∧ FitE fs := by
  have k4 : Tryz.prog.cellsOf 96 = 4 := by kernel_rfl
  rcases Deep.open_slice Tryz.underlying29 hf with ⟨hcs, _⟩ | ⟨y, l, c, m, k, D, P, hcs, _, hl, hm, hmm, _, hall⟩
  · simp at hcs
    subst hcs
    exact ⟨[], RdF.nil W, fun f hf => by cases hf⟩
  · simp at hcs
    subst hcs
    simp only [if_true] at hmm
    have hbuild : ∀ j, j ≤ l → ∃ (qs : List Up) (fs : List Fp), qs.length = j ∧ Tel W qs fs ∧ FitE fs ∧ ∀ i u, (cellsOf encUp qs)[i]? = some u → W.cell? (y.add i) = some u := by
      intro j
      induction j with
      | zero => intro _; exact ⟨[], [], rfl, trivial, (fun f hf => by cases hf), fun i u h => by simp [cellsOf] at h⟩
      | succ j ih =>
        intro hj
        obtain ⟨qs, fs, hp, ht, hfit, hr⟩ := ih (by omega)
        obtain ⟨cs', t0, t1⟩ := hall j (by omega)
        rw [k4] at t0
        obtain ⟨_, hlen, hcell⟩ := World.cells?_some t0
        obtain ⟨q, f, rfl, htell, hff⟩ := upd_cells t1
        refine ⟨qs ++ [q], fs ++ [f], by simp [hp], Tel.app ht (Tel.one htell), fun z hz => ?_, fun i u hu => ?_⟩
        · rcases List.mem_append.1 hz with h | h
          · exact hfit z h
          · rw [List.mem_singleton] at h
            subst h
            exact hff
        rcases cellsU_snoc hu with h | ⟨d, hd, rfl, h⟩
        · exact hr i u h
        · have := hcell d hd
          rw [Deep.add_add] at this
          rw [hp, this, h]
    obtain ⟨qs, fs, hp, ht, hfit, hr⟩ := hbuild l (Nat.le_refl _)
    exact ⟨fs, ⟨qs, ⟨some y, c, by rw [hp], by omega, hm, (fun h => by cases h), hlUp, fun z hz i u hu => by cases hz; exact hr i u hu⟩, ht⟩, hfit⟩

set_option maxRecDepth 100000 in
theorem ents_snoc_get {xs : List Ent} {e : Ent} {j : Nat} {u : Value} (h : (VX.ents (xs ++ [e]))[j]? = some u) :
    (VX.ents xs)[j]? = some u ∨ (j = xs.length * 2 ∧ u = .int .i64 e.1) ∨ (j = xs.length * 2 + 1 ∧ u = .int .i64 e.2) := by
  rw [VX.ents_append] at h
  rcases Nat.lt_or_ge j (VX.ents xs).length with hl | hl
  · rw [List.getElem?_append_left hl] at h
    exact .inl h
  · rw [List.getElem?_append_right hl, VX.ents_length] at h
    rw [VX.ents_length] at hl
    obtain ⟨d, rfl⟩ : ∃ d, j = xs.length * 2 + d := ⟨j - xs.length * 2, by omega⟩
    rw [Nat.add_sub_cancel_left] at h
    match d, h with
    | 0, h => exact .inr (.inl ⟨by omega, by simpa [VX.ents] using h.symm⟩)
    | 1, h => exact .inr (.inr ⟨by omega, by simpa [VX.ents] using h.symm⟩)
    | d + 2, h => simp [VX.ents] at h
set_option maxRecDepth 100000 in
theorem rdV_of_trod {v : Value} (hf : DataW.trod enc Tryz.prog W 0 (fun _ => true) true n 31 [v] = some x) : ∃ xs, VX.RdV W v xs := by
  rcases Deep.open_slice_pairs Tryz.underlying31 Tryz.underlying110 (by kernel_rfl) (by kernel_rfl) (by kernel_rfl) (by kernel_rfl) (by kernel_rfl) hf with ⟨hcs, _⟩ | ⟨y, l, c, m, k, V0, V1, D0, D1, P0, P1, hcs, _, hl, hm, hmm, _, hall⟩
  · simp at hcs
    subst hcs
    exact ⟨[], VX.RdV.nil W⟩
  · simp at hcs
    subst hcs
    simp only [if_true] at hmm
    have hbuild : ∀ j, j ≤ l → ∃ xs : List Ent, xs.length = j ∧ ∀ i u, (VX.ents xs)[i]? = some u → W.cell? (y.add i) = some u := by
      intro j
      induction j with
      | zero => intro _; exact ⟨[], rfl, fun i u h => by simp [VX.ents] at h⟩
      | succ j ih =>
        intro hj
        obtain ⟨xs, hp, hr⟩ := ih (by omega)
        obtain ⟨k0, k1, t0, t1⟩ := hall j (by omega)
        obtain ⟨a, ha, _, _⟩ := DataW.trod_int Tryz.underlying3 t0
        obtain ⟨b, hb, _, _⟩ := DataW.trod_int Tryz.underlying3 t1
        simp at ha hb
        refine ⟨xs ++ [(a, b)], by simp [hp], fun i u hu => ?_⟩
        rcases ents_snoc_get hu with h | ⟨rfl, rfl⟩ | ⟨rfl, rfl⟩
        · exact hr i u h
        · rw [hp, k0, ha]
        · rw [hp, k1, hb]
    obtain ⟨xs, hp, hr⟩ := hbuild l (Nat.le_refl _)
    exact ⟨xs, some y, c, by rw [hp], by omega, hm, (fun h => by cases h), fun z hz i u hu => by cases hz; exact hr i u hu⟩
end

end Go.Proofs.YtahcehbgfhdbjaaGreatDoor.ST

namespace Go.Proofs.YtahcehbgfhdbjaaGreatDoor
open Go.ChangeShapes Go.WideShapes Go.ChangeAt Go.RowKit
open NM (Ms)

/-- An int's value. -/
def NM.I64 (k : Int) : Prop := (Lit.int .i64 k).wf = true

section
variable {H : Type} {enc : TypeId × Value → H} {W : World} {n : Nat} {x : DataW H × List MemPlace}
set_option maxRecDepth 100000 in
theorem cert_cells {cs : List Value} (h : DataW.trod enc Tryz.prog W 0 (fun _ => true) true n 27 cs = some x) : ∃ a b f t, cs = [a, b] ∧ RdF W a f ∧ RdF W b t := by
  have k1 : Tryz.prog.cellsOf 25 = 1 := by kernel_rfl
  have k2 : Tryz.prog.cellsOf 27 = 2 := by kernel_rfl
  obtain ⟨y0, y1, m, _, hl, h0, h1⟩ := Go.ChangeShapes.trod_struct2 Tryz.underlying27 h
  rw [k2] at hl
  match cs, hl with
  | [c0, c1], _ =>
    simp only [k1] at h0 h1
    obtain ⟨f, hf'⟩ := rdF_of_trod h0
    obtain ⟨t, ht⟩ := rdF_of_trod h1
    exact ⟨c0, c1, f, t, rfl, hf', ht⟩
set_option maxRecDepth 100000 in
theorem acc_cells {cs : List Value} (h : DataW.trod enc Tryz.prog W 0 (fun _ => true) true n 23 cs = some x) : ∃ p q, cs = [.int .i64 p, .int .i64 q] := by
  have k1 : Tryz.prog.cellsOf 3 = 1 := by kernel_rfl
  have k2 : Tryz.prog.cellsOf 23 = 2 := by kernel_rfl
  obtain ⟨y0, y1, m, _, hl, h0, h1⟩ := Go.ChangeShapes.trod_struct2 Tryz.underlying23 h
  rw [k2] at hl
  match cs, hl with
  | [c0, c1], _ =>
    simp only [k1] at h0 h1
    obtain ⟨p, hp, _⟩ := DataW.trod_int Tryz.underlying3 h0
    obtain ⟨q, hq, _⟩ := DataW.trod_int Tryz.underlying3 h1
    have hp' : [c0] = [Value.int .i64 p] := hp
    have hq' : [c1] = [Value.int .i64 q] := hq
    injection hp' with hp' _
    injection hq' with hq' _
    exact ⟨p, q, by rw [hp', hq']⟩
set_option maxRecDepth 100000 in
set_option maxHeartbeats 4000000 in
theorem msg_cells {cs : List Value} (h : DataW.trod enc Tryz.prog W 0 (fun _ => true) true n 33 cs = some x) : ∃ (m : Ms) (y : Mv), cs = (mcell m y).toList ∧ RdMs W y m ∧ ST.FitE m.st ∧ NM.I64 m.k := by
  have k0 : Tryz.prog.cellsOf 3 = 1 := by kernel_rfl
  have kb : Tryz.prog.cellsOf 4 = 1 := by kernel_rfl
  have ka : Tryz.prog.cellsOf 23 = 2 := by kernel_rfl
  have kc : Tryz.prog.cellsOf 27 = 2 := by kernel_rfl
  have k1 : Tryz.prog.cellsOf 25 = 1 := by kernel_rfl
  have k2 : Tryz.prog.cellsOf 29 = 1 := by kernel_rfl
  have k3 : Tryz.prog.cellsOf 31 = 1 := by kernel_rfl
  have km : Tryz.prog.cellsOf 33 = 18 := by kernel_rfl
  obtain ⟨xs, m, _, _, hl, hlen, hf⟩ := DataW.trod_struct Tryz.underlying33 h
  rw [km] at hl
  match xs, hlen, cs, hl with
  | [z0, z1, z2, z3, z4, z5, z6, z7, z8, z9, z10, z11, z12, z13], _, [c0, c1, c2, c3, c4, c5, c6, c7, c8, c9, c10, c11, c12, c13, c14, c15, c16, c17], _ =>
    have g0 := hf 0 _ rfl
    have g1 := hf 1 _ rfl
    have g2 := hf 2 _ rfl
    have g3 := hf 3 _ rfl
    have g4 := hf 4 _ rfl
    have g5 := hf 5 _ rfl
    have g6 := hf 6 _ rfl
    have g7 := hf 7 _ rfl
    have g8 := hf 8 _ rfl
    have g9 := hf 9 _ rfl
    have g10 := hf 10 _ rfl
    have g11 := hf 11 _ rfl
    have g12 := hf 12 _ rfl
    have g13 := hf 13 _ rfl
    simp [k0, kb, ka, kc, k1, k2, k3] at g0 g1 g2 g3 g4 g5 g6 g7 g8 g9 g10 g11 g12 g13
    obtain ⟨a0, e0, _, hwf⟩ := DataW.trod_int Tryz.underlying3 g0
    obtain ⟨a1, e1, _⟩ := DataW.trod_int Tryz.underlying3 g1
    obtain ⟨a2, e2, _⟩ := DataW.trod_int Tryz.underlying3 g2
    obtain ⟨p, q, e3⟩ := acc_cells g3
    obtain ⟨a4, e4, _⟩ := DataW.trod_int Tryz.underlying3 g4
    obtain ⟨a5, e5, _⟩ := DataW.trod_int Tryz.underlying3 g5
    obtain ⟨s1, s2, f1, t1, e6, r1, r2⟩ := cert_cells g6
    obtain ⟨s3, s4, f2, t2, e7, r3, r4⟩ := cert_cells g7
    obtain ⟨b8, e8, _⟩ := DataW.trod_bool Tryz.underlying4 g8
    obtain ⟨s5, s6, f3, t3, e9, r5, r6⟩ := cert_cells g9
    obtain ⟨cg, r7⟩ := rdF_of_trod g10
    obtain ⟨st, r8, hfe⟩ := ST.rdF_of_trod g11
    obtain ⟨hv, r9⟩ := rdV_of_trod g12
    obtain ⟨b13, e13, _⟩ := DataW.trod_bool Tryz.underlying4 g13
    simp at e0 e1 e2 e3 e4 e5 e6 e7 e8 e9 e13
    obtain ⟨rfl, rfl⟩ := e3
    obtain ⟨rfl, rfl⟩ := e6
    obtain ⟨rfl, rfl⟩ := e7
    obtain ⟨rfl, rfl⟩ := e9
    subst e0 e1 e2 e4 e5 e8 e13
    exact ⟨⟨a0, a1, a2, p, q, a4, a5, f1, t1, f2, t2, b8, f3, t3, cg, st, hv, b13⟩, ⟨_, _, _, _, _, _, _, _, _⟩, rfl, ⟨r1, r2, r3, r4, r5, r6, r7, r8, r9⟩, hfe, hwf⟩
set_option maxRecDepth 100000 in
theorem msg_of_trod {r : Reach} {b0 : Nat} {v : Value} {d : DataW H} {p : List MemPlace} (hv : Value.okWide Tryz.prog W r b0 33 v) (h : DataW.Trod enc Tryz.prog W 0 (fun _ => true) true 33 v d p) :
    ∃ (m : Ms) (y : Mv), v = mv m y ∧ (RdMs W y m ∧ ST.FitE m.st ∧ NM.I64 m.k) := by
  obtain ⟨cs, rfl, hsz⟩ := okWide_struct Tryz.underlying33 hv
  obtain ⟨fuel, hf⟩ := h
  obtain ⟨m, y, e, hr⟩ := msg_cells hf
  refine ⟨m, y, ?_, hr⟩
  have : cs = mcell m y := by
    apply Array.ext'
    exact e
  rw [this]
end
end Go.Proofs.YtahcehbgfhdbjaaGreatDoor

namespace Go.Proofs.YtahcehbgfhdbjaaGreatDoor
open Go.RowKit

theorem fldE : IsElem Tryz.prog 50 55 1 8 encI where
  ht := Tryz.underlying50
  info := by
    obtain ⟨i0, hi, hz0, hz1, hz2⟩ := info_parts (show (Tryz.prog.info? 55).map (fun i => (i.zero, i.size, i.bytes)) = some (some (.int .i64 0), 1, 8) by kernel_rfl)
    exact ⟨i0, _, hi, hz0, hz1, hz2, rfl⟩
  len := fun _ => rfl
  one := by intro x u hu; simp [encI] at hu; subst hu; rfl
  pos := by decide
  fits := by decide
theorem atF {w : World} {a : Option Addr} {n c : Nat} {xs : List Int} (h : RdI w (.slice a n c) xs) (k : Nat) (x : Int) (hk : xs[k]? = some x) :
    ∃ b o, (∀ w0, (Instr.indexAt 50 (.slice a n c) (.int .i64 (k : Int))).run Tryz.prog w0 = .ok (.pointer (some ⟨b, o, none⟩)) w0) ∧ b < w.heap.size ∧ w.cell? ⟨b, o, none⟩ = some (.int .i64 x) := by
  obtain ⟨b, o, h1, h2, h3⟩ := h.at_ fldE k x hk
  exact ⟨b, o, h1, h2, h3 0 _ rfl⟩

set_option maxRecDepth 100000 in
set_option maxHeartbeats 2000000 in
theorem cIndexF (v : Value) (l : List Int) (x : Int) (w : World) (h : RdI w v l) :
    Calls Tryz.prog 110 #[v, .int .i64 x] w fun e w' => ∃ n : Int, e = .returned (.int .i64 n) ∧ decide (0 ≤ n) = l.contains x ∧ w = w' := by
  obtain ⟨ad, c, rfl, hc, hl⟩ := h.shape
  have H := Lib.hid h
  clear h
  obtain ⟨R, hR⟩ : ∃ R, R = l.contains x := ⟨_, rfl⟩
  rw [← hR]
  have HR := Lib.hid (show R = (l.drop 0).contains x from hR)
  clear hR
  go_enter Tryz.func110, Tryz.ntmps110
  go_wp2
  go_loop [8] (fun i => ∃ k : Nat, k ≤ l.length ∧ i = .int .i64 k ∧ Hid (R = (l.drop k).contains x)) (fun i => l.length - (intOf i).toNat)
  case atStart => exact ⟨0, Nat.zero_le _, rfl, HR⟩
  case round =>
    obtain ⟨k, hk, rfl, he⟩ := hrel
    clear HR
    by_cases hlt : k < l.length
    · obtain ⟨b, o, hi, hb, c0⟩ := atF H.out k l[k] (List.getElem?_eq_getElem hlt)
      have hq : (k : Int) < (l.length : Int) := by omega
      have hdx := Lib.hid (drop_get hlt)
      generalize l[k] = y at c0 hdx
      by_cases h0 : x = y
      · have e2 := Lib.hid (show R = true by rw [he.out, hdx.out, h0]; simp)
        have heq : (x == y) = true := by simp [h0]
        clear he hdx h0
        go_wp2
        go_ret
        exact ⟨_, rfl, by rw [e2.out]; exact decide_eq_true (by omega), rfl⟩
      · have e2 := Lib.hid (show R = (l.drop (k + 1)).contains x by rw [he.out, hdx.out]; simp [h0])
        have heq : (x == y) = false := by simp [h0]
        clear he hdx h0
        go_wp2
        go_round
        case rel => exact ⟨k + 1, by omega, by go_num, e2⟩
        case measure => simp [intOf]; omega
    · have hq : ¬ ((k : Int) < (l.length : Int)) := by omega
      have e2 := Lib.hid (show R = false by rw [he.out, List.drop_of_length_le (by omega)]; rfl)
      clear he
      go_wp2
      go_ret
      exact ⟨_, rfl, by rw [e2.out]; decide, rfl⟩

set_option maxRecDepth 100000 in
set_option maxHeartbeats 1000000 in
theorem cContainsF (v : Value) (l : List Int) (x : Int) (w : World) (h : RdI w v l) :
    Calls Tryz.prog 57 #[v, .int .i64 x] w fun e w' => e = .returned (.bool (l.contains x)) ∧ w = w' := by
  have H := Lib.hid (cIndexF v l x w h)
  generalize l.contains x = R at H ⊢
  obtain ⟨ad, c, rfl, hc, hl⟩ := h.shape
  clear h
  go_enter Tryz.func57, Tryz.ntmps57
  go_wp2_with fail
  refine H.out.mono ?_
  rintro e w1 ⟨n, rfl, hn, rfl⟩
  have HN := Lib.hid hn
  clear hn H
  go_wp2
  go_ret
  exact ⟨ret_bool HN.out, rfl⟩

end Go.Proofs.YtahcehbgfhdbjaaGreatDoor
