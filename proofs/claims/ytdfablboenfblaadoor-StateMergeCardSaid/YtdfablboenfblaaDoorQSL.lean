/-
  The contracts of state's functions at valid states; the call of the laws' awake: it returns true. Conditions: the tables of unicode/utf8 are laid.
  The calls of the laws StateValidate, StateDecode: each returns true. Conditions: what comes in reads; the tables of unicode/utf8 are laid. (Written by mk_slaws.py.)
  The calls of the laws StateBeyond, StateMerge: each returns true. Conditions: what comes in reads; the tables of unicode/utf8 are laid. (Written by mk_slaws.py.)
  The calls of the laws StatePair: each returns true. Conditions: what comes in reads; the tables of unicode/utf8 are laid. (Written by mk_slaws.py.)
  The call of the law StateAdd: it returns true. Conditions: what comes in reads; the tables of unicode/utf8 are laid.
  The call of the law StateRoundTrip: it returns true. Conditions: what comes in reads; the tables of unicode/utf8 are laid.
  The calls of the laws StateLattice: each returns true. Conditions: what comes in reads; the tables of unicode/utf8 are laid. (Written by mk_slaws.py.)
  The calls of the laws StateTransfer: each returns true. Conditions: what comes in reads; the tables of unicode/utf8 are laid. (Written by mk_slaws.py.)
-/
import Derived.Deep.RegionHeld3
import Derived.Test.YtdfablboenfblaaDoorQYE
import Derived.Test.YtdfablboenfblaaDoorQYF
import Derived.Test.YtdfablboenfblaaDoorQSOpn
import Derived.Test.YtdfablboenfblaaDoorQSR3
import Derived.Test.YtdfablboenfblaaDoorQSR2
import Derived.Test.YtdfablboenfblaaDoorQSEnc
import Derived.Test.YtdfablboenfblaaDoorQSKit
import Derived.Deep.LoopGhost
import Derived.Test.YtdfablboenfblaaDoorQSM1
namespace Go.Proofs.YtdfablboenfblaaDoor.ST
open Go.RowKit
open UM (Ef)
open SM (Fp)
open VM (Ent)

theorem oUnion (va vb : Value) (xs ys : List Fp) (w : World) (ha : RdF w va xs) (hb : RdF w vb ys) (hx : SM.Ok xs) (hy : SM.Ok ys) :
    Calls Tryd.prog 24 #[va, vb] w fun e w' => ∃ v', e = .returned v' ∧ RdF w' v' (SM.un xs ys) ∧ Below w.heap.size w w' :=
  gUnion va vb xs ys w ha hb (by have := hx.all48; omega) (by have := hy.all48; omega) (all_len hx.all) (all_len hy.all)
theorem oContains (va vb : Value) (xs ys : List Fp) (w : World) (ha : RdF w va xs) (hb : RdF w vb ys) (hx : SM.Ok xs) :
    Calls Tryd.prog 20 #[va, vb] w fun e w' => e = .returned (.bool (SM.cons xs ys)) ∧ Below w.heap.size w w' :=
  gContains va vb xs ys w ha hb hx.srt (by have := hx.all48; omega)
theorem oVector (v : Value) (xs : List Fp) (w : World) (h : RdF w v xs) (hx : SM.Ok xs) :
    Calls Tryd.prog 18 #[v] w fun e w' => ∃ v', e = .returned v' ∧ OwnE w.heap.size w' v' (SM.vo xs) ∧ Below w.heap.size w w' :=
  gVector v xs w h (by have := hx.all48; omega)

def La : List Ef := [(5, ⟨#[97]⟩, ⟨#[98]⟩, 0, ⟨#[]⟩)]
def Fa : Fp := (101, 1, 0, La)
def Fb : Fp := (102, 1, 0, La)
def Fc : Fp := (101, 3, 0, La)
theorem la_fit : ∀ e ∈ La, EfFit e := by
  intro e he
  rw [La, List.mem_singleton] at he
  subst he
  refine ⟨⟨by decide, by decide⟩, ?_, ?_, ?_⟩
  · show 1 ≤ maxLen; unfold maxLen; omega
  · show 1 ≤ maxLen; unfold maxLen; omega
  · exact Nat.zero_le _
theorem ab_fit : FitE [Fa, Fb] := fun f hf => by
  rcases List.mem_cons.1 hf with rfl | h
  · exact la_fit
  · rw [List.mem_singleton] at h; subst h; exact la_fit
theorem l_fit : FitE [Fb, Fb, Fc] := fun f hf => by
  rcases List.mem_cons.1 hf with rfl | h
  · exact la_fit
  · rcases List.mem_cons.1 h with rfl | h
    · exact la_fit
    · rw [List.mem_singleton] at h; subst h; exact la_fit
theorem fa_err : SM.errF Fa = 0 := by decide +kernel
theorem fb_err : SM.errF Fb = 0 := by decide +kernel
theorem fc_err : SM.errF Fc = 0 := by decide +kernel
theorem ok_ab : SM.Ok [Fa, Fb] := by show SM.errL (0, 0) [Fa, Fb] = 0; decide +kernel
theorem ok_a : SM.Ok [Fa] := by show SM.errL (0, 0) [Fa] = 0; decide +kernel
theorem ok_b : SM.Ok [Fb] := by show SM.errL (0, 0) [Fb] = 0; decide +kernel
theorem un_ab : SM.un [Fa] [Fb] = [Fa, Fb] := by rw [SM.un_cons, if_pos (by decide), SM.nil_un]
theorem add_ab : SM.addU [Fa, Fb] Fa = (5, []) := by unfold SM.addU; rw [if_neg (by rw [fa_err]; decide), if_pos (by decide)]
theorem cons_1 : SM.cons [Fa, Fb] [Fb] = true := SM.cons_iff.2 fun _ hf => List.mem_cons_of_mem _ hf
theorem cons_2 : SM.cons [Fa] [Fa, Fb] = false := by
  cases h : SM.cons [Fa] [Fa, Fb] with
  | false => rfl
  | true =>
    have := SM.cons_iff.1 h Fb (List.mem_cons_of_mem _ (List.mem_singleton.2 rfl))
    rw [List.mem_singleton] at this
    exact absurd (congrArg Prod.fst this) (by decide)
theorem bey_1 : SM.bey [Fa, Fb] (VM.cnt (SM.vo [Fa])) 5 = ([Fb], false) := rfl
theorem mrg_1 : SM.mrg [Fa] [Fb, Fb, Fc] = ([Fa, Fb], 1, 1) := by
  unfold SM.mrg
  rw [List.foldl_cons, List.foldl_cons, List.foldl_cons, List.foldl_nil]
  have h1 : SM.mrg1 ([Fa], 0, 0) Fb = ([Fa, Fb], 1, 0) := by
    unfold SM.mrg1; dsimp only
    rw [if_neg (by rw [fb_err]; decide), if_neg (by decide), un_ab]; rfl
  have h2 : SM.mrg1 ([Fa, Fb], 1, 0) Fb = ([Fa, Fb], 1, 0) := by
    unfold SM.mrg1; dsimp only
    rw [if_neg (by rw [fb_err]; decide), if_pos (by decide)]
  have h3 : SM.mrg1 ([Fa, Fb], 1, 0) Fc = ([Fa, Fb], 1, 1) := by
    unfold SM.mrg1; dsimp only
    rw [if_pos (by rw [fc_err]; decide)]; rfl
  rw [h1, h2, h3]
theorem dec_ab : SM.decL (SM.encL [Fa, Fb]) = (0, (SM.encL [Fa, Fb]).length, [Fa, Fb]) := by
  have := SM.decL_enc ok_ab ab_fit.i []
  rw [List.append_nil] at this
  exact this
theorem enc_pos (fs : List Fp) : 0 < (SM.encL fs).length := by
  unfold SM.encL
  rw [List.length_append]
  have := WM.enc_pos fs.length
  omega

set_option maxRecDepth 100000 in
set_option maxHeartbeats 8000000 in
theorem cAwake12 (w : World) (hT : Tb w) : Calls Tryd.prog 13 #[] w fun e w' => e = .returned (.bool true) ∧ Below w.heap.size w w' := by
  have hb0 := below_fresh w (.cells #[.int .i64 5, .string ⟨#[97]⟩, .string ⟨#[98]⟩, .int .i64 0, .string ⟨#[]⟩] 62)
  have hl0 : RdEf (w.alloc (.cells #[.int .i64 5, .string ⟨#[97]⟩, .string ⟨#[98]⟩, .int .i64 0, .string ⟨#[]⟩] 62)) (.slice (some ⟨w.heap.size, 0, none⟩) 1 1) La := (ownG_fresh hlEf 62 w La (by simp [maxLen, La])).rd
  have hs0 := World.size_alloc w (.cells #[.int .i64 5, .string ⟨#[97]⟩, .string ⟨#[98]⟩, .int .i64 0, .string ⟨#[]⟩] 62)
  obtain ⟨w0, hw0⟩ : ∃ w0, w.alloc (.cells #[.int .i64 5, .string ⟨#[97]⟩, .string ⟨#[98]⟩, .int .i64 0, .string ⟨#[]⟩] 62) = w0 := ⟨_, rfl⟩
  rw [hw0] at hb0 hl0 hs0
  have hb1 := below_fresh w0 (.cells #[.int .i64 101, .int .i64 1, .int .i64 0, .slice (some ⟨w.heap.size, 0, none⟩) 1 1] 43)
  have ha1 : RdUp (w0.alloc (.cells #[.int .i64 101, .int .i64 1, .int .i64 0, .slice (some ⟨w.heap.size, 0, none⟩) 1 1] 43)) (.slice (some ⟨w0.heap.size, 0, none⟩) 1 1) [(101, 1, 0, some ⟨w.heap.size, 0, none⟩, 1, 1)] := (ownG_fresh hlUp 43 w0 [(101, 1, 0, some ⟨w.heap.size, 0, none⟩, 1, 1)] (by simp [maxLen])).rd
  have hp1 := OU.fresh w0 101 1 0 (.slice (some ⟨w.heap.size, 0, none⟩) 1 1)
  have hs1 := World.size_alloc w0 (.cells #[.int .i64 101, .int .i64 1, .int .i64 0, .slice (some ⟨w.heap.size, 0, none⟩) 1 1] 43)
  obtain ⟨w1, hw1⟩ : ∃ w1, w0.alloc (.cells #[.int .i64 101, .int .i64 1, .int .i64 0, .slice (some ⟨w.heap.size, 0, none⟩) 1 1] 43) = w1 := ⟨_, rfl⟩
  rw [hw1] at hb1 ha1 hs1 hp1
  have hb2 := below_fresh w1 (.cells #[.int .i64 102, .int .i64 1, .int .i64 0, .slice (some ⟨w.heap.size, 0, none⟩) 1 1] 43)
  have ha2 : RdUp (w1.alloc (.cells #[.int .i64 102, .int .i64 1, .int .i64 0, .slice (some ⟨w.heap.size, 0, none⟩) 1 1] 43)) (.slice (some ⟨w1.heap.size, 0, none⟩) 1 1) [(102, 1, 0, some ⟨w.heap.size, 0, none⟩, 1, 1)] := (ownG_fresh hlUp 43 w1 [(102, 1, 0, some ⟨w.heap.size, 0, none⟩, 1, 1)] (by simp [maxLen])).rd
  have hp2 := OU.fresh w1 102 1 0 (.slice (some ⟨w.heap.size, 0, none⟩) 1 1)
  obtain ⟨w2, hw2⟩ : ∃ w2, w1.alloc (.cells #[.int .i64 102, .int .i64 1, .int .i64 0, .slice (some ⟨w.heap.size, 0, none⟩) 1 1] 43) = w2 := ⟨_, rfl⟩
  rw [hw2] at hb2 ha2 hp2
  have hl2 : RdEf w2 (.slice (some ⟨w.heap.size, 0, none⟩) 1 1) La := (hl0.below hb1).below hb2
  have hA : RdF w2 (.slice (some ⟨w.heap.size + 1, 0, none⟩) 1 1) [Fa] := by rw [← hs0]; exact ⟨_, ha1.below hb2, Tel.one ⟨rfl, rfl, rfl, hl2⟩⟩
  have hB : RdF w2 (.slice (some ⟨w.heap.size + 1 + 1, 0, none⟩) 1 1) [Fb] := by rw [← hs0, ← hs1]; exact ⟨_, ha2, Tel.one ⟨rfl, rfl, rfl, hl2⟩⟩
  have hpa : OU w2 (w.heap.size + 1) 101 1 0 (.slice (some ⟨w.heap.size, 0, none⟩) 1 1) := by rw [← hs0]; exact hp1.below hb2
  have hpb : OU w2 (w.heap.size + 1 + 1) 102 1 0 (.slice (some ⟨w.heap.size, 0, none⟩) 1 1) := by rw [← hs0, ← hs1]; exact hp2
  have HA := Lib.hid hA
  have HB := Lib.hid hB
  have HL := Lib.hid hl2
  have HPA := Lib.hid hpa
  have HPB := Lib.hid hpb
  have HBW := Lib.hid (bnext (bnext hb0 hb1) hb2)
  have HT := Lib.hid (hT.below HBW.out)
  have HW := Lib.hid (And.intro hw0 (And.intro hw1 hw2))
  have HU := oUnion _ _ _ _ w2 hA hB ok_a ok_b
  rw [un_ab] at HU
  have HU := Lib.hid HU
  clear hT hb0 hl0 hs0 hb1 ha1 hs1 hp1 hb2 ha2 hl2 hA hB hp2 hpa hpb hw0 hw1 hw2
  go_enter Tryd.func13, Tryd.ntmps13
  go_wp2_with fail
  rw [HW.out.1, HW.out.2.1, HW.out.2.2]
  refine HU.out.mono ?_
  rintro e w3 ⟨v3, rfl, hr, hb⟩
  obtain ⟨a3, c3, rfl, _, _⟩ := hr.shape
  replace HA := Lib.hid (HA.out.below hb)
  replace HB := Lib.hid (HB.out.below hb)
  replace HL := Lib.hid (HL.out.below hb)
  replace HPA := Lib.hid (HPA.out.below hb)
  replace HPB := Lib.hid (HPB.out.below hb)
  replace HT := Lib.hid (HT.out.below hb)
  replace HBW := Lib.hid (bnext HBW.out hb)
  replace HU := Lib.hid (show RdF w3 (.slice a3 2 c3) [Fa, Fb] from hr)
  have hlen : ([Fa, Fb] : List Fp).length = 2 := rfl
  rw [hlen]
  have hC := gAdd _ _ 101 1 0 (.slice (some ⟨w.heap.size, 0, none⟩) 1 1) La w3 HU.out HL.out ok_ab HT.out (fun e he => ⟨(la_fit e he).2.1, (la_fit e he).2.2.1⟩)
  rw [show SM.addU [Fa, Fb] ((101 : Int), (1 : Int), (0 : Int), La) = (5, []) from add_ab] at hC
  have HC := Lib.hid hC
  clear hr hb hC hlen HW
  obtain ⟨p0, p1, p2, p3, _⟩ := HPA.out.cells
  go_wp2_with fail
  refine HC.out.mono ?_
  rintro e w4 ⟨v4, rfl, _, hb⟩
  replace HA := Lib.hid (HA.out.below hb)
  replace HB := Lib.hid (HB.out.below hb)
  replace HL := Lib.hid (HL.out.below hb)
  replace HPA := Lib.hid (HPA.out.below hb)
  replace HPB := Lib.hid (HPB.out.below hb)
  replace HT := Lib.hid (HT.out.below hb)
  replace HBW := Lib.hid (bnext HBW.out hb)
  replace HU := Lib.hid (HU.out.below hb)
  replace HC := Lib.hid (gAppendC (.slice none 0 0) [] _ _ w4 (Rd.nil _) HU.out ok_ab ab_fit.i (by simp))
  clear hb p0 p1 p2 p3
  go_wp2_with fail
  refine HC.out.mono ?_
  rintro e w5 ⟨v5, rfl, ho, hb⟩
  replace HA := Lib.hid (HA.out.below hb)
  replace HB := Lib.hid (HB.out.below hb)
  replace HL := Lib.hid (HL.out.below hb)
  replace HPA := Lib.hid (HPA.out.below hb)
  replace HPB := Lib.hid (HPB.out.below hb)
  replace HT := Lib.hid (HT.out.below hb)
  replace HBW := Lib.hid (bnext HBW.out hb)
  replace HU := Lib.hid (HU.out.below hb)
  have hD := gDecodeC v5 _ w5 HT.out ho.rd
  rw [List.nil_append, dec_ab] at hD
  have hN := enc_pos [Fa, Fb]
  have hN2 := ho.rd.len64
  rw [List.nil_append] at hN2
  generalize (SM.encL [Fa, Fb]).length = N at hD hN hN2
  have hN3 : (0 : Int) < (N : Int) := by omega
  have HD := Lib.hid hD
  clear hb ho hD HC hN hN2
  go_wp2_with fail
  refine HD.out.mono ?_
  rintro e w6 ⟨v6, rfl, hr, hb⟩
  replace HA := Lib.hid (HA.out.below hb)
  replace HB := Lib.hid (HB.out.below hb)
  replace HL := Lib.hid (HL.out.below hb)
  replace HPA := Lib.hid (HPA.out.below hb)
  replace HPB := Lib.hid (HPB.out.below hb)
  replace HT := Lib.hid (HT.out.below hb)
  replace HBW := Lib.hid (bnext HBW.out hb)
  replace HU := Lib.hid (HU.out.below hb)
  have HR := Lib.hid hr
  replace HC := Lib.hid (oVector _ _ w6 HA.out ok_a)
  clear hr hb HD
  go_wp2_with fail
  refine HC.out.mono ?_
  rintro e w7 ⟨v7, rfl, ho, hb⟩
  replace HA := Lib.hid (HA.out.below hb)
  replace HB := Lib.hid (HB.out.below hb)
  replace HL := Lib.hid (HL.out.below hb)
  replace HPA := Lib.hid (HPA.out.below hb)
  replace HPB := Lib.hid (HPB.out.below hb)
  replace HT := Lib.hid (HT.out.below hb)
  replace HBW := Lib.hid (bnext HBW.out hb)
  replace HU := Lib.hid (HU.out.below hb)
  replace HR := Lib.hid (HR.out.below hb)
  have hC := gBeyond _ v7 _ _ 5 w7 HU.out ho.rdV (SM.vo_spec ok_a).1 (by have := SM.vo_len [Fa]; simp at this; omega) (by simp) (all_len ok_ab.all)
  rw [bey_1] at hC
  replace HC := Lib.hid hC
  clear hb ho hC
  go_wp2_with fail
  refine HC.out.mono ?_
  rintro e w8 ⟨v8, rfl, hr, hb⟩
  obtain ⟨a8, c8, rfl, _, _⟩ := hr.shape
  replace HA := Lib.hid (HA.out.below hb)
  replace HB := Lib.hid (HB.out.below hb)
  replace HL := Lib.hid (HL.out.below hb)
  replace HPA := Lib.hid (HPA.out.below hb)
  replace HPB := Lib.hid (HPB.out.below hb)
  replace HT := Lib.hid (HT.out.below hb)
  replace HBW := Lib.hid (bnext HBW.out hb)
  replace HU := Lib.hid (HU.out.below hb)
  replace HR := Lib.hid (HR.out.below hb)
  have hlen : ([Fb] : List Fp).length = 1 := rfl
  rw [hlen]
  clear hr hb hlen HC
  go_wp2
  refine wp_region_held_drew (S := fun w' => Below w8.heap.size w8 w') (by kernel_rfl) ((Below.refl _ _).drew) (fun ha => ?_)
  replace ha : Below w8.heap.size w8 w8.drew := (Below.refl _ _).drew
  generalize w8.drew = wa at ha ⊢
  refine takeH (i := 0) (v := ?_) rfl (by kernel_rfl) (by kernel_rfl) (by kernel_rfl) (fun _ _ _ h => h) (Or.inl ⟨by rfl, ?_⟩) (by assumption) ?_
  rotate_left
  · (intro w hSw; (try dsimp only at hSw); go_simp; first | done | with_reducible rfl)
  (try simp only [Act.put, List.setIfInBounds_toArray, List.set_cons_zero, List.set_cons_succ])
  refine takeH (i := 1) (v := ?_) rfl (by kernel_rfl) (by kernel_rfl) (by kernel_rfl) (fun _ _ _ h => h) (Or.inl ⟨by rfl, ?_⟩) (by assumption) ?_
  rotate_left
  · (intro w hSw; (try dsimp only at hSw); go_simp; first | done | with_reducible rfl)
  (try simp only [Act.put, List.setIfInBounds_toArray, List.set_cons_zero, List.set_cons_succ])
  refine takeH (i := 2) (v := ?_) rfl (by kernel_rfl) (by kernel_rfl) (by kernel_rfl) (fun _ _ _ h => h) (Or.inl ⟨by rfl, ?_⟩) (by assumption) ?_
  rotate_left
  · (intro w hSw; (try dsimp only at hSw); go_simp; first | done | with_reducible rfl)
  (try simp only [Act.put, List.setIfInBounds_toArray, List.set_cons_zero, List.set_cons_succ])
  refine takeH (i := 3) (v := ?_) rfl (by kernel_rfl) (by kernel_rfl) (by kernel_rfl) (fun _ _ _ h => h) (Or.inl ⟨by rfl, ?_⟩) (by assumption) ?_
  rotate_left
  · (intro w hSw; (try dsimp only at hSw); obtain ⟨p0, p1, p2, p3, _⟩ := (HPB.out.below hSw).cells; go_simp; first | done | with_reducible rfl)
  (try simp only [Act.put, List.setIfInBounds_toArray, List.set_cons_zero, List.set_cons_succ])
  refine takeH (i := 4) (v := ?_) rfl (by kernel_rfl) (by kernel_rfl) (by kernel_rfl) (fun _ _ _ h => h) (Or.inl ⟨by rfl, ?_⟩) (by assumption) ?_
  rotate_left
  · (intro w hSw; (try dsimp only at hSw); go_simp; first | done | with_reducible rfl)
  (try simp only [Act.put, List.setIfInBounds_toArray, List.set_cons_zero, List.set_cons_succ])
  refine takeH (i := 5) (v := ?_) rfl (by kernel_rfl) (by kernel_rfl) (by kernel_rfl) (fun _ _ _ h => h) (Or.inl ⟨by rfl, ?_⟩) (by assumption) ?_
  rotate_left
  · (intro w hSw; (try dsimp only at hSw); go_simp; first | done | with_reducible rfl)
  (try simp only [Act.put, List.setIfInBounds_toArray, List.set_cons_zero, List.set_cons_succ])
  refine takeH (i := 6) (v := ?_) rfl (by kernel_rfl) (by kernel_rfl) (by kernel_rfl) (fun _ _ _ h => h) (Or.inl ⟨by rfl, ?_⟩) (by assumption) ?_
  rotate_left
  · (intro w hSw; (try dsimp only at hSw); obtain ⟨p0, p1, p2, p3, _⟩ := (HPB.out.below hSw).cells; go_simp; first | done | with_reducible rfl)
  (try simp only [Act.put, List.setIfInBounds_toArray, List.set_cons_zero, List.set_cons_succ])
  refine takeH (i := 7) (v := ?_) rfl (by kernel_rfl) (by kernel_rfl) (by kernel_rfl) (fun _ _ _ h => h) (Or.inl ⟨by rfl, ?_⟩) (by assumption) ?_
  rotate_left
  · (intro w hSw; (try dsimp only at hSw); go_simp; first | done | with_reducible rfl)
  (try simp only [Act.put, List.setIfInBounds_toArray, List.set_cons_zero, List.set_cons_succ])
  refine takeH (i := 8) (v := ?_) rfl (by kernel_rfl) (by kernel_rfl) (by kernel_rfl) (fun _ _ _ h => h) (Or.inl ⟨by rfl, ?_⟩) (by assumption) ?_
  rotate_left
  · (intro w hSw; (try dsimp only at hSw); go_simp; first | done | with_reducible rfl)
  (try simp only [Act.put, List.setIfInBounds_toArray, List.set_cons_zero, List.set_cons_succ])
  refine wpAnyH_ready (rs := [9]) (by kernel_rfl) (by simp) ?_
  refine stepH rfl (fun K hK => ?_) AllReadyH.nil
  go_simp
  have hb := bnext ha (below_fresh _ (.cells #[.int .i64 102, .int .i64 1, .int .i64 0, .slice (some ⟨w.heap.size, 0, none⟩) 1 1, .int .i64 102, .int .i64 1, .int .i64 0, .slice (some ⟨w.heap.size, 0, none⟩) 1 1, .int .i64 101, .int .i64 3, .int .i64 0, .slice (some ⟨w.heap.size, 0, none⟩) 1 1] 43))
  have hrp : RdUp (wa.alloc (.cells #[.int .i64 102, .int .i64 1, .int .i64 0, .slice (some ⟨w.heap.size, 0, none⟩) 1 1, .int .i64 102, .int .i64 1, .int .i64 0, .slice (some ⟨w.heap.size, 0, none⟩) 1 1, .int .i64 101, .int .i64 3, .int .i64 0, .slice (some ⟨w.heap.size, 0, none⟩) 1 1] 43)) (.slice (some ⟨wa.heap.size, 0, none⟩) 3 3) [(102, 1, 0, some ⟨w.heap.size, 0, none⟩, 1, 1), (102, 1, 0, some ⟨w.heap.size, 0, none⟩, 1, 1), (101, 3, 0, some ⟨w.heap.size, 0, none⟩, 1, 1)] := (ownG_fresh hlUp 43 wa [(102, 1, 0, some ⟨w.heap.size, 0, none⟩, 1, 1), (102, 1, 0, some ⟨w.heap.size, 0, none⟩, 1, 1), (101, 3, 0, some ⟨w.heap.size, 0, none⟩, 1, 1)] (by simp [maxLen])).rd
  refine hK.out _ _ (hb) (fun _ => ?_)
  clear hK K
  (try simp only [Act.put, List.setIfInBounds_toArray, List.set_cons_zero, List.set_cons_succ])
  obtain ⟨wb , hwb ⟩ : ∃ wb , (wa).alloc (.cells #[.int .i64 102, .int .i64 1, .int .i64 0, .slice (some ⟨w.heap.size, 0, none⟩) 1 1, .int .i64 102, .int .i64 1, .int .i64 0, .slice (some ⟨w.heap.size, 0, none⟩) 1 1, .int .i64 101, .int .i64 3, .int .i64 0, .slice (some ⟨w.heap.size, 0, none⟩) 1 1] 43) = wb  := ⟨_, rfl⟩
  rw [hwb ] at hb hrp ⊢
  clear hwb 
  refine wpAnyH_ready (rs := [10]) (by kernel_rfl) (by simp) ?_
  refine stepH rfl (fun K hK => ?_) AllReadyH.nil
  go_simp
  have hl3 := HL.out.below hb
  have hM := gMerge _ _ [Fa] [Fb, Fb, Fc] wb (HT.out.below hb) (HA.out.below hb) ⟨_, hrp, ⟨⟨rfl, rfl, rfl, hl3⟩, ⟨rfl, rfl, rfl, hl3⟩, ⟨rfl, rfl, rfl, hl3⟩, trivial⟩⟩ ok_a (by simp) l_fit.n
  rw [mrg_1] at hM
  refine hM.mono ?_
  rintro e wc ⟨vc, rfl, hrc, hq⟩
  obtain ⟨ac, cc, rfl, _, _⟩ := hrc.shape
  have hc := bnext hb hq
  go_wp2_with fail
  refine hK.out _ _ (hc) (fun _ => ?_)
  clear hK K
  (try simp only [Act.put, List.setIfInBounds_toArray, List.set_cons_zero, List.set_cons_succ])
  refine takeH (i := 11) (v := ?_) rfl (by kernel_rfl) (by kernel_rfl) (by kernel_rfl) (fun _ _ _ h => h) (Or.inl ⟨by rfl, ?_⟩) (by assumption) ?_
  rotate_left
  · (intro w hSw; (try dsimp only at hSw); go_simp; first | done | with_reducible rfl)
  (try simp only [Act.put, List.setIfInBounds_toArray, List.set_cons_zero, List.set_cons_succ])
  refine takeH (i := 12) (v := ?_) rfl (by kernel_rfl) (by kernel_rfl) (by kernel_rfl) (fun _ _ _ h => h) (Or.inl ⟨by rfl, ?_⟩) (by assumption) ?_
  rotate_left
  · (intro w hSw; (try dsimp only at hSw); go_simp; first | done | with_reducible rfl)
  (try simp only [Act.put, List.setIfInBounds_toArray, List.set_cons_zero, List.set_cons_succ])
  refine takeH (i := 13) (v := ?_) rfl (by kernel_rfl) (by kernel_rfl) (by kernel_rfl) (fun _ _ _ h => h) (Or.inl ⟨by rfl, ?_⟩) (by assumption) ?_
  rotate_left
  · (intro w hSw; (try dsimp only at hSw); go_simp; first | done | with_reducible rfl)
  (try simp only [Act.put, List.setIfInBounds_toArray, List.set_cons_zero, List.set_cons_succ])
  refine takeH (i := 14) (v := ?_) rfl (by kernel_rfl) (by kernel_rfl) (by kernel_rfl) (fun _ _ _ h => h) (Or.inl ⟨by rfl, ?_⟩) (by assumption) ?_
  rotate_left
  · (intro w hSw; (try dsimp only at hSw); go_simp; first | done | with_reducible rfl)
  (try simp only [Act.put, List.setIfInBounds_toArray, List.set_cons_zero, List.set_cons_succ])
  refine takeH (i := 15) (v := ?_) rfl (by kernel_rfl) (by kernel_rfl) (by kernel_rfl) (fun _ _ _ h => h) (Or.inl ⟨by rfl, ?_⟩) (by assumption) ?_
  rotate_left
  · (intro w hSw; (try dsimp only at hSw); go_simp; first | done | with_reducible rfl)
  (try simp only [Act.put, List.setIfInBounds_toArray, List.set_cons_zero, List.set_cons_succ])
  refine takeH (i := 16) (v := ?_) rfl (by kernel_rfl) (by kernel_rfl) (by kernel_rfl) (fun _ _ _ h => h) (Or.inl ⟨by rfl, ?_⟩) (by assumption) ?_
  rotate_left
  · (intro w hSw; (try dsimp only at hSw); go_simp; first | done | with_reducible rfl)
  (try simp only [Act.put, List.setIfInBounds_toArray, List.set_cons_zero, List.set_cons_succ])
  refine takeH (i := 17) (v := ?_) rfl (by kernel_rfl) (by kernel_rfl) (by kernel_rfl) (fun _ _ _ h => h) (Or.inl ⟨by rfl, ?_⟩) (by assumption) ?_
  rotate_left
  · (intro w hSw; (try dsimp only at hSw); go_simp; first | done | with_reducible rfl)
  (try simp only [Act.put, List.setIfInBounds_toArray, List.set_cons_zero, List.set_cons_succ])
  refine wpAnyH_done (by kernel_rfl) ?_ _
  have hb := hc
  obtain ⟨w9, hw9⟩ : ∃ w9, w9 = wc := ⟨_, rfl⟩
  rw [← hw9] at hb hrc ⊢
  clear hw9 hrp hl3 hc ha
  replace HA := Lib.hid (HA.out.below hb)
  replace HB := Lib.hid (HB.out.below hb)
  replace HL := Lib.hid (HL.out.below hb)
  replace HPA := Lib.hid (HPA.out.below hb)
  replace HPB := Lib.hid (HPB.out.below hb)
  replace HT := Lib.hid (HT.out.below hb)
  replace HBW := Lib.hid (bnext HBW.out hb)
  replace HU := Lib.hid (HU.out.below hb)
  replace HR := Lib.hid (HR.out.below hb)
  have hC := oContains _ _ _ _ w9 HU.out HB.out ok_ab
  rw [cons_1] at hC
  have HC := Lib.hid hC
  clear hb hrc hC
  go_wp2_with fail
  refine HC.out.mono ?_
  rintro e w10 ⟨rfl, hb⟩
  replace HA := Lib.hid (HA.out.below hb)
  replace HB := Lib.hid (HB.out.below hb)
  replace HL := Lib.hid (HL.out.below hb)
  replace HPA := Lib.hid (HPA.out.below hb)
  replace HPB := Lib.hid (HPB.out.below hb)
  replace HT := Lib.hid (HT.out.below hb)
  replace HBW := Lib.hid (bnext HBW.out hb)
  replace HU := Lib.hid (HU.out.below hb)
  replace HR := Lib.hid (HR.out.below hb)
  have hC := oContains _ _ _ _ w10 HA.out HU.out ok_a
  rw [cons_2] at hC
  replace HC := Lib.hid hC
  clear hb hC
  go_wp2_with fail
  refine HC.out.mono ?_
  rintro e w11 ⟨rfl, hb⟩
  replace HA := Lib.hid (HA.out.below hb)
  replace HB := Lib.hid (HB.out.below hb)
  replace HL := Lib.hid (HL.out.below hb)
  replace HPA := Lib.hid (HPA.out.below hb)
  replace HPB := Lib.hid (HPB.out.below hb)
  replace HT := Lib.hid (HT.out.below hb)
  replace HBW := Lib.hid (bnext HBW.out hb)
  replace HU := Lib.hid (HU.out.below hb)
  replace HR := Lib.hid (HR.out.below hb)
  have hC := gEqual _ _ _ _ w11 HR.out HU.out
  rw [decide_eq_true rfl] at hC
  replace HC := Lib.hid hC
  clear hb hC
  go_wp2_with fail
  refine HC.out.mono ?_
  rintro e w12 ⟨rfl, hb⟩
  replace HA := Lib.hid (HA.out.below hb)
  replace HB := Lib.hid (HB.out.below hb)
  replace HL := Lib.hid (HL.out.below hb)
  replace HPA := Lib.hid (HPA.out.below hb)
  replace HPB := Lib.hid (HPB.out.below hb)
  replace HT := Lib.hid (HT.out.below hb)
  replace HBW := Lib.hid (bnext HBW.out hb)
  replace HU := Lib.hid (HU.out.below hb)
  have hC := gValidate _ _ w12 HT.out ab_fit.n HU.out
  rw [show SM.errL (0, 0) [Fa, Fb] = 0 from ok_ab] at hC
  replace HC := Lib.hid hC
  clear hb hC
  go_wp2_with fail
  refine HC.out.mono ?_
  rintro e w13 ⟨rfl, hb⟩
  replace HBW := Lib.hid (bnext HBW.out hb)
  clear hb HC
  go_wp2
  go_ret
  exact ⟨rfl, HBW.out⟩

end Go.Proofs.YtdfablboenfblaaDoor.ST

namespace Go.Proofs.YtdfablboenfblaaDoor.ST
open Go.RowKit Go.Joins
open UM (Ef)
open SM (Fp)
open VM (Ent)

set_option maxRecDepth 100000 in
theorem kShort (v : Value) (fs : List Fp) (w : World) (h : RdF w v fs) :
    Calls Tryd.prog 12 #[v] w fun e w' => e = .returned (.bool (decide ((fs.length : Int) ≤ 60))) ∧ Below w.heap.size w w' := by
  obtain ⟨ad, cp, rfl, hcp, _⟩ := h.shape
  clear h
  go_enter Tryd.func12, Tryd.ntmps12
  go_wp2
  go_ret
  exact ⟨rfl, Below.refl _ _⟩
theorem fitN_ok {fs : List Fp} (h : ∀ f ∈ fs, SM.errF f = 0) : FitN fs := fun f hf => nm_ok (h f hf)

set_option maxRecDepth 100000 in
set_option maxHeartbeats 4000000 in
theorem lStateValidate (v : Value) (fs : List Fp) (w : World) (hT : Tb w) (h : RdF w v fs) (hfit : FitE fs) :
    Calls Tryd.prog 3 #[v] w fun e w' => e = .returned (.bool true) ∧ Below w.heap.size w w' := by
  have HF := Lib.hid h
  have HT := Lib.hid hT
  have H1 := Lib.hid (fun w' (ht : Tb w') (hh : RdF w' v fs) => gValidate _ fs w' ht hfit.n hh)
  have H2 := Lib.hid (fun w' (hh : RdF w' v fs) => rValidateS _ fs w' hh)
  generalize SM.errL (0, 0) fs = E at H1 H2
  have he : (E == E) = true := beq_t rfl
  clear h hT hfit
  by_cases hs60 : (fs.length : Int) ≤ 60
  · have HB := Lib.hid (Below.refl w.heap.size w)
    go_enter Tryd.func3, Tryd.ntmps3
    have hC := kShort _ _ w HF.out
    rw [decide_eq_true hs60] at hC
    have HC := Lib.hid hC
    clear hC
    go_wp2_with fail
    refine HC.out.mono ?_
    rintro e w1 ⟨rfl, hb⟩
    replace HF := Lib.hid (HF.out.below hb)
    replace HT := Lib.hid (HT.out.below hb)
    replace HB := Lib.hid (bnext HB.out hb)
    clear hb HC
    have hC := H1.out w1 HT.out HF.out
    have HC := Lib.hid hC
    clear hC
    go_wp2_with fail
    refine HC.out.mono ?_
    rintro e w2 ⟨rfl, hb⟩
    replace HF := Lib.hid (HF.out.below hb)
    replace HT := Lib.hid (HT.out.below hb)
    replace HB := Lib.hid (bnext HB.out hb)
    clear hb HC
    have hC := H2.out w2 HF.out
    have HC := Lib.hid hC
    clear hC
    go_wp2_with fail
    refine HC.out.mono ?_
    rintro e w3 ⟨rfl, hb⟩
    replace HF := Lib.hid (HF.out.below hb)
    replace HT := Lib.hid (HT.out.below hb)
    replace HB := Lib.hid (bnext HB.out hb)
    clear hb HC
    have hC := cAwake12 w3 HT.out
    have HC := Lib.hid hC
    clear hC
    go_wp2_with fail
    refine HC.out.mono ?_
    rintro e w4 ⟨rfl, hb⟩
    replace HF := Lib.hid (HF.out.below hb)
    replace HT := Lib.hid (HT.out.below hb)
    replace HB := Lib.hid (bnext HB.out hb)
    clear hb HC
    go_wp2
    go_ret
    exact ⟨rfl, HB.out⟩
  · have HB := Lib.hid (Below.refl w.heap.size w)
    go_enter Tryd.func3, Tryd.ntmps3
    have hC := kShort _ _ w HF.out
    rw [decide_eq_false hs60] at hC
    have HC := Lib.hid hC
    clear hC
    go_wp2_with fail
    refine HC.out.mono ?_
    rintro e w1 ⟨rfl, hb⟩
    replace HF := Lib.hid (HF.out.below hb)
    replace HT := Lib.hid (HT.out.below hb)
    replace HB := Lib.hid (bnext HB.out hb)
    clear hb HC
    have hC := cAwake12 w1 HT.out
    have HC := Lib.hid hC
    clear hC
    go_wp2_with fail
    refine HC.out.mono ?_
    rintro e w2 ⟨rfl, hb⟩
    replace HF := Lib.hid (HF.out.below hb)
    replace HT := Lib.hid (HT.out.below hb)
    replace HB := Lib.hid (bnext HB.out hb)
    clear hb HC
    go_wp2
    go_ret
    exact ⟨rfl, HB.out⟩

set_option maxRecDepth 100000 in
set_option maxHeartbeats 4000000 in
theorem lStateDecode (v : Value) (xs : List Int) (w : World) (hT : Tb w) (h : Rd w v xs) :
    Calls Tryd.prog 11 #[v] w fun e w' => e = .returned (.bool true) ∧ Below w.heap.size w w' := by
  obtain ⟨ad, cp, rfl, hcp⟩ := h.shape
  have HF := Lib.hid h
  have HT := Lib.hid hT
  clear hT
  by_cases hl : 500 < xs.length
  · have hq : (500 : Int) < (xs.length : Int) := by omega
    clear h
    have HB := Lib.hid (Below.refl w.heap.size w)
    go_enter Tryd.func11, Tryd.ntmps11
    have hC := cAwake12 w HT.out
    have HC := Lib.hid hC
    clear hC
    go_wp2_with fail
    refine HC.out.mono ?_
    rintro e w1 ⟨rfl, hb⟩
    replace HT := Lib.hid (HT.out.below hb)
    replace HB := Lib.hid (bnext HB.out hb)
    clear hb HC
    go_wp2
    go_ret
    exact ⟨rfl, HB.out⟩
  · have hq : ¬ (500 : Int) < (xs.length : Int) := by omega
    have H1 := Lib.hid (fun w' (ht : Tb w') (hh : Rd w' (.slice ad xs.length cp) xs) => gDecodeC _ xs w' ht hh)
    have H2 := Lib.hid (fun w' (hh : Rd w' (.slice ad xs.length cp) xs) => rDecodeS _ xs w' hh)
    generalize SM.decL xs = R at H1 H2
    obtain ⟨er, u, fs⟩ := R
    have he : (er == er) = true := beq_t rfl
    have hu : ((u : Int) == (u : Int)) = true := beq_t rfl
    clear h
    have HB := Lib.hid (Below.refl w.heap.size w)
    go_enter Tryd.func11, Tryd.ntmps11
    have hC := H1.out w HT.out HF.out
    have HC := Lib.hid hC
    clear hC
    go_wp2_with fail
    refine HC.out.mono ?_
    rintro e w1 ⟨vR1, rfl, hr, hb⟩
    replace HF := Lib.hid (HF.out.below hb)
    replace HT := Lib.hid (HT.out.below hb)
    replace HB := Lib.hid (bnext HB.out hb)
    have R1 := Lib.hid hr
    clear hb HC hr
    have hC := H2.out w1 HF.out
    have HC := Lib.hid hC
    clear hC
    go_wp2_with fail
    refine HC.out.mono ?_
    rintro e w2 ⟨vR2, rfl, hr, hb⟩
    replace HF := Lib.hid (HF.out.below hb)
    replace HT := Lib.hid (HT.out.below hb)
    replace R1 := Lib.hid (R1.out.below hb)
    replace HB := Lib.hid (bnext HB.out hb)
    have R2 := Lib.hid hr
    clear hb HC hr
    have hC := rEqualState _ _ _ _ w2 R1.out R2.out
    rw [decide_eq_true rfl] at hC
    have HC := Lib.hid hC
    clear hC
    go_wp2_with fail
    refine HC.out.mono ?_
    rintro e w3 ⟨rfl, hb⟩
    replace HF := Lib.hid (HF.out.below hb)
    replace HT := Lib.hid (HT.out.below hb)
    replace R1 := Lib.hid (R1.out.below hb)
    replace R2 := Lib.hid (R2.out.below hb)
    replace HB := Lib.hid (bnext HB.out hb)
    clear hb HC
    have hC := cAwake12 w3 HT.out
    have HC := Lib.hid hC
    clear hC
    go_wp2_with fail
    refine HC.out.mono ?_
    rintro e w4 ⟨rfl, hb⟩
    replace HF := Lib.hid (HF.out.below hb)
    replace HT := Lib.hid (HT.out.below hb)
    replace R1 := Lib.hid (R1.out.below hb)
    replace R2 := Lib.hid (R2.out.below hb)
    replace HB := Lib.hid (bnext HB.out hb)
    clear hb HC
    go_wp2
    go_ret
    exact ⟨rfl, HB.out⟩

end Go.Proofs.YtdfablboenfblaaDoor.ST

namespace Go.Proofs.YtdfablboenfblaaDoor.ST
open Go.RowKit Go.Joins
open UM (Ef)
open SM (Fp)
open VM (Ent)

set_option maxRecDepth 100000 in
set_option maxHeartbeats 4000000 in
theorem lStateBeyond (v u : Value) (n : Int) (fs : List Fp) (vs : List Ent) (w : World) (hT : Tb w) (h : RdF w v fs) (hv : VX.RdV w u vs) :
    Calls Tryd.prog 7 #[v, u, .int .i64 n] w fun e w' => e = .returned (.bool true) ∧ Below w.heap.size w w' := by
  obtain ⟨bd, bp, rfl, hbp, _⟩ := hv.shape
  have HF := Lib.hid h
  have HV := Lib.hid hv
  have HT := Lib.hid hT
  clear h hv hT
  by_cases hs60 : (fs.length : Int) ≤ 60
  case neg =>
    have HB := Lib.hid (Below.refl w.heap.size w)
    go_enter Tryd.func7, Tryd.ntmps7
    have hC := kShort _ _ w HF.out
    rw [decide_eq_false hs60] at hC
    have HC := Lib.hid hC
    clear hC
    go_wp2_with fail
    refine HC.out.mono ?_
    rintro e w1 ⟨rfl, hb⟩
    replace HF := Lib.hid (HF.out.below hb)
    replace HT := Lib.hid (HT.out.below hb)
    replace HB := Lib.hid (bnext HB.out hb)
    clear hb HC
    have hC := cAwake12 w1 HT.out
    have HC := Lib.hid hC
    clear hC
    go_wp2_with fail
    refine HC.out.mono ?_
    rintro e w2 ⟨rfl, hb⟩
    replace HF := Lib.hid (HF.out.below hb)
    replace HT := Lib.hid (HT.out.below hb)
    replace HB := Lib.hid (bnext HB.out hb)
    clear hb HC
    go_wp2
    go_ret
    exact ⟨rfl, HB.out⟩
  by_cases hl2 : 40 < vs.length
  · have hq2 : (40 : Int) < (vs.length : Int) := by omega
    have HB := Lib.hid (Below.refl w.heap.size w)
    go_enter Tryd.func7, Tryd.ntmps7
    have hC := kShort _ _ w HF.out
    rw [decide_eq_true hs60] at hC
    have HC := Lib.hid hC
    clear hC
    go_wp2_with fail
    refine HC.out.mono ?_
    rintro e w1 ⟨rfl, hb⟩
    replace HF := Lib.hid (HF.out.below hb)
    replace HT := Lib.hid (HT.out.below hb)
    replace HB := Lib.hid (bnext HB.out hb)
    clear hb HC
    have hC := cAwake12 w1 HT.out
    have HC := Lib.hid hC
    clear hC
    go_wp2_with fail
    refine HC.out.mono ?_
    rintro e w2 ⟨rfl, hb⟩
    replace HF := Lib.hid (HF.out.below hb)
    replace HT := Lib.hid (HT.out.below hb)
    replace HB := Lib.hid (bnext HB.out hb)
    clear hb HC
    go_wp2
    go_ret
    exact ⟨rfl, HB.out⟩
  have hq2 : ¬ (40 : Int) < (vs.length : Int) := by omega
  have H1 := Lib.hid (fun w' (hh : RdF w' v fs) => rValidateS _ fs w' hh)
  have H2 := Lib.hid (fun w' (hh : VX.RdV w' (.slice bd vs.length bp) vs) => VX.rValidate _ vs w' hh)
  obtain ⟨E1, hE1⟩ : ∃ E, E = SM.errL (0, 0) fs := ⟨_, rfl⟩
  obtain ⟨E2, hE2⟩ : ∃ E, E = VM.err 0 vs := ⟨_, rfl⟩
  rw [← hE1] at H1
  rw [← hE2] at H2
  by_cases h1 : E1 = 0
  case neg =>
    have hne : (E1 != 0) = true := bne_t h1
    clear hE1 hE2 h1
    have HB := Lib.hid (Below.refl w.heap.size w)
    go_enter Tryd.func7, Tryd.ntmps7
    have hC := kShort _ _ w HF.out
    rw [decide_eq_true hs60] at hC
    have HC := Lib.hid hC
    clear hC
    go_wp2_with fail
    refine HC.out.mono ?_
    rintro e w1 ⟨rfl, hb⟩
    replace HF := Lib.hid (HF.out.below hb)
    replace HV := Lib.hid (HV.out.below hb)
    replace HT := Lib.hid (HT.out.below hb)
    replace HB := Lib.hid (bnext HB.out hb)
    clear hb HC
    have hC := H1.out w1 HF.out
    have HC := Lib.hid hC
    clear hC
    go_wp2_with fail
    refine HC.out.mono ?_
    rintro e w2 ⟨rfl, hb⟩
    replace HF := Lib.hid (HF.out.below hb)
    replace HV := Lib.hid (HV.out.below hb)
    replace HT := Lib.hid (HT.out.below hb)
    replace HB := Lib.hid (bnext HB.out hb)
    clear hb HC
    have hC := cAwake12 w2 HT.out
    have HC := Lib.hid hC
    clear hC
    go_wp2_with fail
    refine HC.out.mono ?_
    rintro e w3 ⟨rfl, hb⟩
    replace HF := Lib.hid (HF.out.below hb)
    replace HV := Lib.hid (HV.out.below hb)
    replace HT := Lib.hid (HT.out.below hb)
    replace HB := Lib.hid (bnext HB.out hb)
    clear hb HC
    go_wp2
    go_ret
    exact ⟨rfl, HB.out⟩
  by_cases h2 : E2 = 0
  case neg =>
    have hne : (E2 != 0) = true := bne_t h2
    subst h1
    clear hE1 hE2 h2
    have HB := Lib.hid (Below.refl w.heap.size w)
    go_enter Tryd.func7, Tryd.ntmps7
    have hC := kShort _ _ w HF.out
    rw [decide_eq_true hs60] at hC
    have HC := Lib.hid hC
    clear hC
    go_wp2_with fail
    refine HC.out.mono ?_
    rintro e w1 ⟨rfl, hb⟩
    replace HF := Lib.hid (HF.out.below hb)
    replace HV := Lib.hid (HV.out.below hb)
    replace HT := Lib.hid (HT.out.below hb)
    replace HB := Lib.hid (bnext HB.out hb)
    clear hb HC
    have hC := H1.out w1 HF.out
    have HC := Lib.hid hC
    clear hC
    go_wp2_with fail
    refine HC.out.mono ?_
    rintro e w2 ⟨rfl, hb⟩
    replace HF := Lib.hid (HF.out.below hb)
    replace HV := Lib.hid (HV.out.below hb)
    replace HT := Lib.hid (HT.out.below hb)
    replace HB := Lib.hid (bnext HB.out hb)
    clear hb HC
    have hC := H2.out w2 HV.out
    have HC := Lib.hid hC
    clear hC
    go_wp2_with fail
    refine HC.out.mono ?_
    rintro e w3 ⟨rfl, hb⟩
    replace HF := Lib.hid (HF.out.below hb)
    replace HV := Lib.hid (HV.out.below hb)
    replace HT := Lib.hid (HT.out.below hb)
    replace HB := Lib.hid (bnext HB.out hb)
    clear hb HC
    have hC := cAwake12 w3 HT.out
    have HC := Lib.hid hC
    clear hC
    go_wp2_with fail
    refine HC.out.mono ?_
    rintro e w4 ⟨rfl, hb⟩
    replace HF := Lib.hid (HF.out.below hb)
    replace HV := Lib.hid (HV.out.below hb)
    replace HT := Lib.hid (HT.out.below hb)
    replace HB := Lib.hid (bnext HB.out hb)
    clear hb HC
    go_wp2
    go_ret
    exact ⟨rfl, HB.out⟩
  subst h1 h2
  have hok : SM.Ok fs := hE1.symm
  have hval : VM.Val 0 vs := (VM.err_val (Int.le_refl _)).1 hE2.symm
  have h48 := hok.all48
  have HG1 := Lib.hid (fun w' (hh : RdF w' v fs) (hg : VX.RdV w' (.slice bd vs.length bp) vs) => gBeyond _ _ fs vs n w' hh hg hval (by omega) (by omega) (all_len hok.all))
  have HG2 := Lib.hid (fun w' (hh : RdF w' v fs) (hg : VX.RdV w' (.slice bd vs.length bp) vs) => rBeyond _ _ fs vs n w' hh hg (by omega))
  generalize SM.bey fs (VM.cnt vs) n = R at HG1 HG2
  obtain ⟨l, b⟩ := R
  have hbb : (b == b) = true := by cases b <;> rfl
  clear hE1 hE2 hok hval
  have HB := Lib.hid (Below.refl w.heap.size w)
  go_enter Tryd.func7, Tryd.ntmps7
  have hC := kShort _ _ w HF.out
  rw [decide_eq_true hs60] at hC
  have HC := Lib.hid hC
  clear hC
  go_wp2_with fail
  refine HC.out.mono ?_
  rintro e w1 ⟨rfl, hb⟩
  replace HF := Lib.hid (HF.out.below hb)
  replace HV := Lib.hid (HV.out.below hb)
  replace HT := Lib.hid (HT.out.below hb)
  replace HB := Lib.hid (bnext HB.out hb)
  clear hb HC
  have hC := H1.out w1 HF.out
  have HC := Lib.hid hC
  clear hC
  go_wp2_with fail
  refine HC.out.mono ?_
  rintro e w2 ⟨rfl, hb⟩
  replace HF := Lib.hid (HF.out.below hb)
  replace HV := Lib.hid (HV.out.below hb)
  replace HT := Lib.hid (HT.out.below hb)
  replace HB := Lib.hid (bnext HB.out hb)
  clear hb HC
  have hC := H2.out w2 HV.out
  have HC := Lib.hid hC
  clear hC
  go_wp2_with fail
  refine HC.out.mono ?_
  rintro e w3 ⟨rfl, hb⟩
  replace HF := Lib.hid (HF.out.below hb)
  replace HV := Lib.hid (HV.out.below hb)
  replace HT := Lib.hid (HT.out.below hb)
  replace HB := Lib.hid (bnext HB.out hb)
  clear hb HC
  have hC := HG1.out w3 HF.out HV.out
  have HC := Lib.hid hC
  clear hC
  go_wp2_with fail
  refine HC.out.mono ?_
  rintro e w4 ⟨vR1, rfl, hr, hb⟩
  replace HF := Lib.hid (HF.out.below hb)
  replace HV := Lib.hid (HV.out.below hb)
  replace HT := Lib.hid (HT.out.below hb)
  replace HB := Lib.hid (bnext HB.out hb)
  have R1 := Lib.hid hr
  clear hb HC hr
  have hC := HG2.out w4 HF.out HV.out
  have HC := Lib.hid hC
  clear hC
  go_wp2_with fail
  refine HC.out.mono ?_
  rintro e w5 ⟨vR2, rfl, hr, hb⟩
  replace HF := Lib.hid (HF.out.below hb)
  replace HV := Lib.hid (HV.out.below hb)
  replace HT := Lib.hid (HT.out.below hb)
  replace R1 := Lib.hid (R1.out.below hb)
  replace HB := Lib.hid (bnext HB.out hb)
  have R2 := Lib.hid hr
  clear hb HC hr
  have hC := rEqualState _ _ _ _ w5 R1.out R2.out
  rw [decide_eq_true rfl] at hC
  have HC := Lib.hid hC
  clear hC
  go_wp2_with fail
  refine HC.out.mono ?_
  rintro e w6 ⟨rfl, hb⟩
  replace HF := Lib.hid (HF.out.below hb)
  replace HV := Lib.hid (HV.out.below hb)
  replace HT := Lib.hid (HT.out.below hb)
  replace R1 := Lib.hid (R1.out.below hb)
  replace R2 := Lib.hid (R2.out.below hb)
  replace HB := Lib.hid (bnext HB.out hb)
  clear hb HC
  have hC := cAwake12 w6 HT.out
  have HC := Lib.hid hC
  clear hC
  go_wp2_with fail
  refine HC.out.mono ?_
  rintro e w7 ⟨rfl, hb⟩
  replace HF := Lib.hid (HF.out.below hb)
  replace HV := Lib.hid (HV.out.below hb)
  replace HT := Lib.hid (HT.out.below hb)
  replace R1 := Lib.hid (R1.out.below hb)
  replace R2 := Lib.hid (R2.out.below hb)
  replace HB := Lib.hid (bnext HB.out hb)
  clear hb HC
  go_wp2
  go_ret
  exact ⟨rfl, HB.out⟩

set_option maxRecDepth 100000 in
set_option maxHeartbeats 4000000 in
theorem lStateMerge (v u : Value) (fs l : List Fp) (w : World) (hT : Tb w) (h : RdF w v fs) (hv : RdF w u l) (hfit : FitE l) :
    Calls Tryd.prog 8 #[v, u] w fun e w' => e = .returned (.bool true) ∧ Below w.heap.size w w' := by
  obtain ⟨ad, cp, rfl, hcp, _⟩ := h.shape
  obtain ⟨bd, bp, rfl, hbp, _⟩ := hv.shape
  have HF := Lib.hid h
  have HV := Lib.hid hv
  have HT := Lib.hid hT
  clear h hv hT
  by_cases hs60 : (fs.length : Int) ≤ 60
  case neg =>
    have HB := Lib.hid (Below.refl w.heap.size w)
    go_enter Tryd.func8, Tryd.ntmps8
    have hC := kShort _ _ w HF.out
    rw [decide_eq_false hs60] at hC
    have HC := Lib.hid hC
    clear hC
    go_wp2_with fail
    refine HC.out.mono ?_
    rintro e w1 ⟨rfl, hb⟩
    replace HF := Lib.hid (HF.out.below hb)
    replace HT := Lib.hid (HT.out.below hb)
    replace HB := Lib.hid (bnext HB.out hb)
    clear hb HC
    have hC := cAwake12 w1 HT.out
    have HC := Lib.hid hC
    clear hC
    go_wp2_with fail
    refine HC.out.mono ?_
    rintro e w2 ⟨rfl, hb⟩
    replace HF := Lib.hid (HF.out.below hb)
    replace HT := Lib.hid (HT.out.below hb)
    replace HB := Lib.hid (bnext HB.out hb)
    clear hb HC
    go_wp2
    go_ret
    exact ⟨rfl, HB.out⟩
  by_cases hl2 : 60 < l.length
  · have hq2 : (60 : Int) < (l.length : Int) := by omega
    have HB := Lib.hid (Below.refl w.heap.size w)
    go_enter Tryd.func8, Tryd.ntmps8
    have hC := kShort _ _ w HF.out
    rw [decide_eq_true hs60] at hC
    have HC := Lib.hid hC
    clear hC
    go_wp2_with fail
    refine HC.out.mono ?_
    rintro e w1 ⟨rfl, hb⟩
    replace HF := Lib.hid (HF.out.below hb)
    replace HT := Lib.hid (HT.out.below hb)
    replace HB := Lib.hid (bnext HB.out hb)
    clear hb HC
    have hC := cAwake12 w1 HT.out
    have HC := Lib.hid hC
    clear hC
    go_wp2_with fail
    refine HC.out.mono ?_
    rintro e w2 ⟨rfl, hb⟩
    replace HF := Lib.hid (HF.out.below hb)
    replace HT := Lib.hid (HT.out.below hb)
    replace HB := Lib.hid (bnext HB.out hb)
    clear hb HC
    go_wp2
    go_ret
    exact ⟨rfl, HB.out⟩
  have hq2 : ¬ (60 : Int) < (l.length : Int) := by omega
  have H1 := Lib.hid (fun w' (hh : RdF w' (.slice ad fs.length cp) fs) => rValidateS _ fs w' hh)
  obtain ⟨E1, hE1⟩ : ∃ E, E = SM.errL (0, 0) fs := ⟨_, rfl⟩
  rw [← hE1] at H1
  by_cases h1 : E1 = 0
  case neg =>
    have hne : (E1 != 0) = true := bne_t h1
    clear hE1 h1
    have HB := Lib.hid (Below.refl w.heap.size w)
    go_enter Tryd.func8, Tryd.ntmps8
    have hC := kShort _ _ w HF.out
    rw [decide_eq_true hs60] at hC
    have HC := Lib.hid hC
    clear hC
    go_wp2_with fail
    refine HC.out.mono ?_
    rintro e w1 ⟨rfl, hb⟩
    replace HF := Lib.hid (HF.out.below hb)
    replace HV := Lib.hid (HV.out.below hb)
    replace HT := Lib.hid (HT.out.below hb)
    replace HB := Lib.hid (bnext HB.out hb)
    clear hb HC
    have hC := H1.out w1 HF.out
    have HC := Lib.hid hC
    clear hC
    go_wp2_with fail
    refine HC.out.mono ?_
    rintro e w2 ⟨rfl, hb⟩
    replace HF := Lib.hid (HF.out.below hb)
    replace HV := Lib.hid (HV.out.below hb)
    replace HT := Lib.hid (HT.out.below hb)
    replace HB := Lib.hid (bnext HB.out hb)
    clear hb HC
    have hC := cAwake12 w2 HT.out
    have HC := Lib.hid hC
    clear hC
    go_wp2_with fail
    refine HC.out.mono ?_
    rintro e w3 ⟨rfl, hb⟩
    replace HF := Lib.hid (HF.out.below hb)
    replace HV := Lib.hid (HV.out.below hb)
    replace HT := Lib.hid (HT.out.below hb)
    replace HB := Lib.hid (bnext HB.out hb)
    clear hb HC
    go_wp2
    go_ret
    exact ⟨rfl, HB.out⟩
  subst h1
  have hok : SM.Ok fs := hE1.symm
  have h48 := hok.all48
  have HG1 := Lib.hid (fun w' (ht : Tb w') (hh : RdF w' (.slice ad fs.length cp) fs) (hg : RdF w' (.slice bd l.length bp) l) => gMerge _ _ fs l w' ht hh hg hok (by omega) hfit.n)
  have HG2 := Lib.hid (fun w' (hh : RdF w' (.slice ad fs.length cp) fs) (hg : RdF w' (.slice bd l.length bp) l) => rMerge _ _ fs l w' hh hg hok (by omega))
  have hm := SM.mrg_ok hok l
  generalize SM.mrg fs l = R at HG1 HG2 hm
  obtain ⟨T, A, B⟩ := R
  obtain ⟨m1, m2, m3, m4, m5⟩ := hm
  simp only at m1 m2 m3 m4
  have ha : (A == A) = true := beq_t rfl
  have hb : (B == B) = true := beq_t rfl
  have hT48 := m1.all48
  have hw1 : IntKind.i64.wrap ((fs.length : Int) + A) = (fs.length : Int) + A := IntWalk.i64_in _ (by omega)
  have hln : ((T.length : Int) == (fs.length : Int) + A) = true := beq_t m3
  have HM1 := Lib.hid m1
  have HM2 := Lib.hid m2
  clear hE1 hok m1 m2 m3 m5 hfit
  have HB := Lib.hid (Below.refl w.heap.size w)
  go_enter Tryd.func8, Tryd.ntmps8
  have hC := kShort _ _ w HF.out
  rw [decide_eq_true hs60] at hC
  have HC := Lib.hid hC
  clear hC
  go_wp2_with fail
  refine HC.out.mono ?_
  rintro e w1 ⟨rfl, hb⟩
  replace HF := Lib.hid (HF.out.below hb)
  replace HV := Lib.hid (HV.out.below hb)
  replace HT := Lib.hid (HT.out.below hb)
  replace HB := Lib.hid (bnext HB.out hb)
  clear hb HC
  have hC := H1.out w1 HF.out
  have HC := Lib.hid hC
  clear hC
  go_wp2_with fail
  refine HC.out.mono ?_
  rintro e w2 ⟨rfl, hb⟩
  replace HF := Lib.hid (HF.out.below hb)
  replace HV := Lib.hid (HV.out.below hb)
  replace HT := Lib.hid (HT.out.below hb)
  replace HB := Lib.hid (bnext HB.out hb)
  clear hb HC
  have hC := HG1.out w2 HT.out HF.out HV.out
  have HC := Lib.hid hC
  clear hC
  go_wp2_with fail
  refine HC.out.mono ?_
  rintro e w3 ⟨vR1, rfl, hr, hb⟩
  replace HF := Lib.hid (HF.out.below hb)
  replace HV := Lib.hid (HV.out.below hb)
  replace HT := Lib.hid (HT.out.below hb)
  replace HB := Lib.hid (bnext HB.out hb)
  have R1 := Lib.hid hr
  obtain ⟨a1, c1, rfl, _, _⟩ := R1.out.shape
  clear hb HC hr
  have hC := HG2.out w3 HF.out HV.out
  have HC := Lib.hid hC
  clear hC
  go_wp2_with fail
  refine HC.out.mono ?_
  rintro e w4 ⟨vR2, rfl, hr, hb⟩
  replace HF := Lib.hid (HF.out.below hb)
  replace HV := Lib.hid (HV.out.below hb)
  replace HT := Lib.hid (HT.out.below hb)
  replace R1 := Lib.hid (R1.out.below hb)
  replace HB := Lib.hid (bnext HB.out hb)
  have R2 := Lib.hid hr
  clear hb HC hr
  have hC := rEqualState _ _ _ _ w4 R1.out R2.out
  rw [decide_eq_true rfl] at hC
  have HC := Lib.hid hC
  clear hC
  go_wp2_with fail
  refine HC.out.mono ?_
  rintro e w5 ⟨rfl, hb⟩
  clear R2
  replace HF := Lib.hid (HF.out.below hb)
  replace HV := Lib.hid (HV.out.below hb)
  replace HT := Lib.hid (HT.out.below hb)
  replace R1 := Lib.hid (R1.out.below hb)
  replace HB := Lib.hid (bnext HB.out hb)
  clear hb HC
  have hC := gValidate _ _ w5 HT.out (fitN_ok HM1.out.all) R1.out
  rw [show SM.errL (0, 0) T = 0 from HM1.out] at hC
  have HC := Lib.hid hC
  clear hC
  go_wp2_with fail
  refine HC.out.mono ?_
  rintro e w6 ⟨rfl, hb⟩
  replace HF := Lib.hid (HF.out.below hb)
  replace HV := Lib.hid (HV.out.below hb)
  replace HT := Lib.hid (HT.out.below hb)
  replace R1 := Lib.hid (R1.out.below hb)
  replace HB := Lib.hid (bnext HB.out hb)
  clear hb HC
  have hC := oContains _ _ _ _ w6 R1.out HF.out HM1.out
  rw [HM2.out] at hC
  have HC := Lib.hid hC
  clear hC
  go_wp2_with fail
  refine HC.out.mono ?_
  rintro e w7 ⟨rfl, hb⟩
  replace HF := Lib.hid (HF.out.below hb)
  replace HV := Lib.hid (HV.out.below hb)
  replace HT := Lib.hid (HT.out.below hb)
  replace R1 := Lib.hid (R1.out.below hb)
  replace HB := Lib.hid (bnext HB.out hb)
  clear hb HC
  have hC := cAwake12 w7 HT.out
  have HC := Lib.hid hC
  clear hC
  go_wp2_with fail
  refine HC.out.mono ?_
  rintro e w8 ⟨rfl, hb⟩
  replace HF := Lib.hid (HF.out.below hb)
  replace HV := Lib.hid (HV.out.below hb)
  replace HT := Lib.hid (HT.out.below hb)
  replace R1 := Lib.hid (R1.out.below hb)
  replace HB := Lib.hid (bnext HB.out hb)
  clear hb HC
  go_wp2
  go_ret
  exact ⟨rfl, HB.out⟩

end Go.Proofs.YtdfablboenfblaaDoor.ST

namespace Go.Proofs.YtdfablboenfblaaDoor.ST
open Go.RowKit Go.Joins
open UM (Ef)
open SM (Fp)
open VM (Ent)

set_option maxRecDepth 100000 in
theorem kShortQ (v : Value) (fs : List Fp) (w : World) (h : RdF w v fs) :
    Calls Tryd.prog 12 #[v] w fun e w' => e = .returned (.bool (decide ((fs.length : Int) ≤ 60))) ∧ w = w' := by
  obtain ⟨ad, cp, rfl, hcp, _⟩ := h.shape
  clear h
  go_enter Tryd.func12, Tryd.ntmps12
  go_wp2
  go_ret
  exact ⟨rfl, rfl⟩

set_option maxRecDepth 100000 in
set_option maxHeartbeats 4000000 in
theorem lStatePair (v u : Value) (xs ys : List Fp) (w : World) (hT : Tb w) (h : RdF w v xs) (hv : RdF w u ys) :
    Calls Tryd.prog 4 #[v, u] w fun e w' => e = .returned (.bool true) ∧ Below w.heap.size w w' := by
  obtain ⟨ad, cp, rfl, hcp, _⟩ := h.shape
  obtain ⟨bd, bp, rfl, hbp, _⟩ := hv.shape
  have HT := Lib.hid hT
  by_cases hs60 : (xs.length : Int) ≤ 60
  case neg =>
    have HF := Lib.hid h
    clear h hv hT
    have HB := Lib.hid (Below.refl w.heap.size w)
    go_enter Tryd.func4, Tryd.ntmps4
    have hC := kShort _ _ w HF.out
    rw [decide_eq_false hs60] at hC
    have HC := Lib.hid hC
    clear hC
    go_wp2_with fail
    refine HC.out.mono ?_
    rintro e w1 ⟨rfl, hb⟩
    replace HF := Lib.hid (HF.out.below hb)
    replace HT := Lib.hid (HT.out.below hb)
    replace HB := Lib.hid (bnext HB.out hb)
    clear hb HC
    have hC := cAwake12 w1 HT.out
    have HC := Lib.hid hC
    clear hC
    go_wp2_with fail
    refine HC.out.mono ?_
    rintro e w2 ⟨rfl, hb⟩
    replace HF := Lib.hid (HF.out.below hb)
    replace HT := Lib.hid (HT.out.below hb)
    replace HB := Lib.hid (bnext HB.out hb)
    clear hb HC
    go_wp2
    go_ret
    exact ⟨rfl, HB.out⟩
  by_cases ht60 : (ys.length : Int) ≤ 60
  case neg =>
    have HF := Lib.hid h
    have HG := Lib.hid hv
    have HN6 := Lib.hid ht60
    clear h hv hT ht60
    have HB := Lib.hid (Below.refl w.heap.size w)
    go_enter Tryd.func4, Tryd.ntmps4
    have hC := kShort _ _ w HF.out
    rw [decide_eq_true hs60] at hC
    have HC := Lib.hid hC
    clear hC
    go_wp2_with fail
    refine HC.out.mono ?_
    rintro e w1 ⟨rfl, hb⟩
    replace HF := Lib.hid (HF.out.below hb)
    replace HG := Lib.hid (HG.out.below hb)
    replace HT := Lib.hid (HT.out.below hb)
    replace HB := Lib.hid (bnext HB.out hb)
    clear hb HC
    have hC := kShort _ _ w1 HG.out
    rw [decide_eq_false (Int.not_le.2 HN6.out)] at hC
    have HC := Lib.hid hC
    clear hC
    go_wp2_with fail
    refine HC.out.mono ?_
    rintro e w2 ⟨rfl, hb⟩
    replace HF := Lib.hid (HF.out.below hb)
    replace HG := Lib.hid (HG.out.below hb)
    replace HT := Lib.hid (HT.out.below hb)
    replace HB := Lib.hid (bnext HB.out hb)
    clear hb HC
    have hC := cAwake12 w2 HT.out
    have HC := Lib.hid hC
    clear hC
    go_wp2_with fail
    refine HC.out.mono ?_
    rintro e w3 ⟨rfl, hb⟩
    replace HF := Lib.hid (HF.out.below hb)
    replace HG := Lib.hid (HG.out.below hb)
    replace HT := Lib.hid (HT.out.below hb)
    replace HB := Lib.hid (bnext HB.out hb)
    clear hb HC
    go_wp2
    go_ret
    exact ⟨rfl, HB.out⟩
  have hS1 := kShortQ _ xs w h
  have hS2 := kShortQ _ ys w hv
  rw [decide_eq_true hs60] at hS1
  rw [decide_eq_true ht60] at hS2
  have HS1 := Lib.hid hS1
  have HS2 := Lib.hid hS2
  clear hS1 hS2
  have hb0 := below_fresh w (.cells #[.slice ad xs.length cp, .slice bd ys.length bp] 23)
  have hK := kValid w.heap.size (.slice ad xs.length cp) (.slice bd ys.length bp) xs ys (w.alloc (.cells #[.slice ad xs.length cp, .slice bd ys.length bp] 23)) (by rw [World.cell?_alloc_new]; rfl) (by rw [World.cell?_alloc_new]; rfl) (h.below hb0) (hv.below hb0)
  obtain ⟨V, hV⟩ : ∃ V, V = valid2 xs ys := ⟨_, rfl⟩
  rw [← hV] at hK
  have HK := Lib.hid hK
  have HB := Lib.hid hb0
  have HX := Lib.hid (h.below hb0)
  have HY := Lib.hid (hv.below hb0)
  replace HT := Lib.hid (hT.below hb0)
  clear hK hb0 h hv hT
  cases V
  · clear hV HX HY
    go_enter Tryd.func4, Tryd.ntmps4
    go_wp2_with fail
    refine HS1.out.mono ?_
    rintro e w1 ⟨rfl, rfl⟩
    go_wp2_with fail
    refine HS2.out.mono ?_
    rintro e w1 ⟨rfl, rfl⟩
    go_wp2_with fail
    refine HK.out.mono ?_
    rintro e w1 ⟨rfl, hb⟩
    replace HT := Lib.hid (HT.out.below hb)
    replace HB := Lib.hid (bnext HB.out hb)
    clear hb
    have hC := cAwake12 w1 HT.out
    have HC := Lib.hid hC
    clear hC
    go_wp2_with fail
    refine HC.out.mono ?_
    rintro e w2 ⟨rfl, hb⟩
    replace HT := Lib.hid (HT.out.below hb)
    replace HB := Lib.hid (bnext HB.out hb)
    clear hb HC
    go_wp2
    go_ret
    exact ⟨rfl, HB.out⟩
  · have hv1 : decide (SM.errL (0, 0) xs = 0) = true ∧ decide (SM.errL (0, 0) ys = 0) = true ∧ SM.agr ys xs = true := by
      unfold valid2 at hV
      simpa [Bool.and_eq_true] using hV.symm
    have hx : SM.Ok xs := show SM.errL (0, 0) xs = 0 from of_decide_eq_true hv1.1
    have hy : SM.Ok ys := show SM.errL (0, 0) ys = 0 from of_decide_eq_true hv1.2.1
    have hag : SM.Agr xs ys := (SM.agr_iff hv1.2.2).symm
    have hlx := hx.all48
    have hly := hy.all48
    have HOX := Lib.hid hx
    have HOY := Lib.hid hy
    have e1 := Lib.hid (SM.vo_vr hx)
    have e2 := Lib.hid (SM.conk_cons hag)
    have e3 := Lib.hid (SM.same_eq hag hx.srt hy.srt)
    clear hV hv1 hx hy hag
    go_enter Tryd.func4, Tryd.ntmps4
    go_wp2_with fail
    refine HS1.out.mono ?_
    rintro e w1 ⟨rfl, rfl⟩
    go_wp2_with fail
    refine HS2.out.mono ?_
    rintro e w1 ⟨rfl, rfl⟩
    go_wp2_with fail
    refine HK.out.mono ?_
    rintro e w1 ⟨rfl, hb⟩
    replace HX := Lib.hid (HX.out.below hb)
    replace HY := Lib.hid (HY.out.below hb)
    replace HT := Lib.hid (HT.out.below hb)
    replace HB := Lib.hid (bnext HB.out hb)
    clear hb
    have hC := oVector _ _ w1 HX.out HOX.out
    have HC := Lib.hid hC
    clear hC
    go_wp2_with fail
    refine HC.out.mono ?_
    rintro e w2 ⟨vV1, rfl, ho, hb⟩
    replace HX := Lib.hid (HX.out.below hb)
    replace HY := Lib.hid (HY.out.below hb)
    replace HT := Lib.hid (HT.out.below hb)
    replace HB := Lib.hid (bnext HB.out hb)
    have V1 := Lib.hid ho
    clear hb HC ho
    have hC := rVectorOf _ _ w2 HX.out HOX.out.all (by omega)
    have HC := Lib.hid hC
    clear hC
    go_wp2_with fail
    refine HC.out.mono ?_
    rintro e w3 ⟨vV2, rfl, ho, hb⟩
    replace HX := Lib.hid (HX.out.below hb)
    replace HY := Lib.hid (HY.out.below hb)
    replace HT := Lib.hid (HT.out.below hb)
    replace V1 := Lib.hid (V1.out.below hb)
    replace HB := Lib.hid (bnext HB.out hb)
    have V2 := Lib.hid ho
    clear hb HC ho
    have hC := VX.rEqual _ _ _ _ w3 (OwnE.rdV V1.out) (OwnE.rdV V2.out)
    rw [e1.out, decide_eq_true rfl] at hC
    have HC := Lib.hid hC
    clear hC
    go_wp2_with fail
    refine HC.out.mono ?_
    rintro e w4 ⟨rfl, hb⟩
    clear V1
    clear V2
    replace HX := Lib.hid (HX.out.below hb)
    replace HY := Lib.hid (HY.out.below hb)
    replace HT := Lib.hid (HT.out.below hb)
    replace HB := Lib.hid (bnext HB.out hb)
    clear hb HC
    obtain ⟨R1, hR1⟩ : ∃ R, R = SM.cons xs ys := ⟨_, rfl⟩
    have HR1 := Lib.hid hR1
    clear hR1
    have hbb : ∀ b : Bool, (b == b) = true := fun b => by cases b <;> rfl
    have hC := oContains _ _ _ _ w4 HX.out HY.out HOX.out
    rw [← HR1.out] at hC
    have HC := Lib.hid hC
    clear hC
    go_wp2_with fail
    refine HC.out.mono ?_
    rintro e w5 ⟨rfl, hb⟩
    replace HX := Lib.hid (HX.out.below hb)
    replace HY := Lib.hid (HY.out.below hb)
    replace HT := Lib.hid (HT.out.below hb)
    replace HB := Lib.hid (bnext HB.out hb)
    clear hb HC
    have hC := rContains _ _ _ _ w5 HX.out HY.out
    rw [e2.out, ← HR1.out] at hC
    have HC := Lib.hid hC
    clear hC
    go_wp2_with fail
    refine HC.out.mono ?_
    rintro e w6 ⟨rfl, hb⟩
    replace HX := Lib.hid (HX.out.below hb)
    replace HY := Lib.hid (HY.out.below hb)
    replace HT := Lib.hid (HT.out.below hb)
    replace HB := Lib.hid (bnext HB.out hb)
    clear hb HC
    obtain ⟨R2, hR2⟩ : ∃ R, R = decide (xs = ys) := ⟨_, rfl⟩
    have HR2 := Lib.hid hR2
    clear hR2
    obtain ⟨R3, hR3⟩ : ∃ R, R = SM.conk ys xs := ⟨_, rfl⟩
    have HR3 := Lib.hid hR3
    clear hR3
    have h23 : (R1 && R3) = R2 := by rw [HR1.out, HR2.out, HR3.out, ← e2.out]; exact e3.out
    cases R1
    · obtain rfl : R2 = false := h23.symm
      clear h23
      have hC := gEqual _ _ _ _ w6 HX.out HY.out
      rw [← HR2.out] at hC
      have HC := Lib.hid hC
      clear hC
      go_wp2_with fail
      refine HC.out.mono ?_
      rintro e w7 ⟨rfl, hb⟩
      replace HX := Lib.hid (HX.out.below hb)
      replace HY := Lib.hid (HY.out.below hb)
      replace HT := Lib.hid (HT.out.below hb)
      replace HB := Lib.hid (bnext HB.out hb)
      clear hb HC
      have hC := rContains _ _ _ _ w7 HX.out HY.out
      rw [e2.out, ← HR1.out] at hC
      have HC := Lib.hid hC
      clear hC
      go_wp2_with fail
      refine HC.out.mono ?_
      rintro e w8 ⟨rfl, hb⟩
      replace HX := Lib.hid (HX.out.below hb)
      replace HY := Lib.hid (HY.out.below hb)
      replace HT := Lib.hid (HT.out.below hb)
      replace HB := Lib.hid (bnext HB.out hb)
      clear hb HC
      have hC := oUnion _ _ _ _ w8 HX.out HY.out HOX.out HOY.out
      have HC := Lib.hid hC
      clear hC
      go_wp2_with fail
      refine HC.out.mono ?_
      rintro e w9 ⟨vU1, rfl, hr, hb⟩
      replace HX := Lib.hid (HX.out.below hb)
      replace HY := Lib.hid (HY.out.below hb)
      replace HT := Lib.hid (HT.out.below hb)
      replace HB := Lib.hid (bnext HB.out hb)
      have U1 := Lib.hid hr
      clear hb HC hr
      have hC := rUnion _ _ _ _ w9 HX.out HY.out (by omega) (by omega)
      have HC := Lib.hid hC
      clear hC
      go_wp2_with fail
      refine HC.out.mono ?_
      rintro e w10 ⟨vU2, rfl, hr, hb⟩
      replace HX := Lib.hid (HX.out.below hb)
      replace HY := Lib.hid (HY.out.below hb)
      replace HT := Lib.hid (HT.out.below hb)
      replace U1 := Lib.hid (U1.out.below hb)
      replace HB := Lib.hid (bnext HB.out hb)
      have U2 := Lib.hid hr
      clear hb HC hr
      have hC := rEqualState _ _ _ _ w10 U1.out U2.out
      rw [decide_eq_true rfl] at hC
      have HC := Lib.hid hC
      clear hC
      go_wp2_with fail
      refine HC.out.mono ?_
      rintro e w11 ⟨rfl, hb⟩
      clear U1
      clear U2
      replace HX := Lib.hid (HX.out.below hb)
      replace HY := Lib.hid (HY.out.below hb)
      replace HT := Lib.hid (HT.out.below hb)
      replace HB := Lib.hid (bnext HB.out hb)
      clear hb HC
      have hC := cAwake12 w11 HT.out
      have HC := Lib.hid hC
      clear hC
      go_wp2_with fail
      refine HC.out.mono ?_
      rintro e w12 ⟨rfl, hb⟩
      replace HX := Lib.hid (HX.out.below hb)
      replace HY := Lib.hid (HY.out.below hb)
      replace HT := Lib.hid (HT.out.below hb)
      replace HB := Lib.hid (bnext HB.out hb)
      clear hb HC
      go_wp2
      go_ret
      exact ⟨rfl, HB.out⟩
    · obtain rfl : R3 = R2 := h23
      have hC := gEqual _ _ _ _ w6 HX.out HY.out
      rw [← HR2.out] at hC
      have HC := Lib.hid hC
      clear hC
      go_wp2_with fail
      refine HC.out.mono ?_
      rintro e w7 ⟨rfl, hb⟩
      replace HX := Lib.hid (HX.out.below hb)
      replace HY := Lib.hid (HY.out.below hb)
      replace HT := Lib.hid (HT.out.below hb)
      replace HB := Lib.hid (bnext HB.out hb)
      clear hb HC
      have hC := rContains _ _ _ _ w7 HX.out HY.out
      rw [e2.out, ← HR1.out] at hC
      have HC := Lib.hid hC
      clear hC
      go_wp2_with fail
      refine HC.out.mono ?_
      rintro e w8 ⟨rfl, hb⟩
      replace HX := Lib.hid (HX.out.below hb)
      replace HY := Lib.hid (HY.out.below hb)
      replace HT := Lib.hid (HT.out.below hb)
      replace HB := Lib.hid (bnext HB.out hb)
      clear hb HC
      have hC := rContains _ _ _ _ w8 HY.out HX.out
      rw [← HR3.out] at hC
      have HC := Lib.hid hC
      clear hC
      go_wp2_with fail
      refine HC.out.mono ?_
      rintro e w9 ⟨rfl, hb⟩
      replace HX := Lib.hid (HX.out.below hb)
      replace HY := Lib.hid (HY.out.below hb)
      replace HT := Lib.hid (HT.out.below hb)
      replace HB := Lib.hid (bnext HB.out hb)
      clear hb HC
      cases R3
      all_goals
        have hC := oUnion _ _ _ _ w9 HX.out HY.out HOX.out HOY.out
        have HC := Lib.hid hC
        clear hC
        go_wp2_with fail
        refine HC.out.mono ?_
        rintro e w10 ⟨vU1, rfl, hr, hb⟩
        replace HX := Lib.hid (HX.out.below hb)
        replace HY := Lib.hid (HY.out.below hb)
        replace HT := Lib.hid (HT.out.below hb)
        replace HB := Lib.hid (bnext HB.out hb)
        have U1 := Lib.hid hr
        clear hb HC hr
        have hC := rUnion _ _ _ _ w10 HX.out HY.out (by omega) (by omega)
        have HC := Lib.hid hC
        clear hC
        go_wp2_with fail
        refine HC.out.mono ?_
        rintro e w11 ⟨vU2, rfl, hr, hb⟩
        replace HX := Lib.hid (HX.out.below hb)
        replace HY := Lib.hid (HY.out.below hb)
        replace HT := Lib.hid (HT.out.below hb)
        replace U1 := Lib.hid (U1.out.below hb)
        replace HB := Lib.hid (bnext HB.out hb)
        have U2 := Lib.hid hr
        clear hb HC hr
        have hC := rEqualState _ _ _ _ w11 U1.out U2.out
        rw [decide_eq_true rfl] at hC
        have HC := Lib.hid hC
        clear hC
        go_wp2_with fail
        refine HC.out.mono ?_
        rintro e w12 ⟨rfl, hb⟩
        clear U1
        clear U2
        replace HX := Lib.hid (HX.out.below hb)
        replace HY := Lib.hid (HY.out.below hb)
        replace HT := Lib.hid (HT.out.below hb)
        replace HB := Lib.hid (bnext HB.out hb)
        clear hb HC
        have hC := cAwake12 w12 HT.out
        have HC := Lib.hid hC
        clear hC
        go_wp2_with fail
        refine HC.out.mono ?_
        rintro e w13 ⟨rfl, hb⟩
        replace HX := Lib.hid (HX.out.below hb)
        replace HY := Lib.hid (HY.out.below hb)
        replace HT := Lib.hid (HT.out.below hb)
        replace HB := Lib.hid (bnext HB.out hb)
        clear hb HC
        go_wp2
        go_ret
        exact ⟨rfl, HB.out⟩

end Go.Proofs.YtdfablboenfblaaDoor.ST

namespace Go.Proofs.YtdfablboenfblaaDoor.ST
open Go.RowKit Go.Joins
open UM (Ef)
open SM (Fp)

set_option maxRecDepth 100000 in
set_option maxHeartbeats 8000000 in
theorem lStateAdd (v : Value) (fs : List Fp) (x m t : Int) (sv : Value) (cs : List Ef) (w : World) (hT : Tb w) (h : RdF w v fs) (hs : RdEf w sv cs) (hfit : ∀ e ∈ cs, EfFit e) :
    Calls Tryd.prog 6 #[v, uv x m t sv] w fun e w' => e = .returned (.bool true) ∧ Below w.heap.size w w' := by
  obtain ⟨ad, cp, rfl, hcp, _⟩ := h.shape
  obtain ⟨da, dc, rfl, hdc, _⟩ := hs.shape
  have hb0 := below_fresh w (.cells #[.int .i64 x, .int .i64 m, .int .i64 t, .slice da cs.length dc] 43)
  have hp0 := OU.fresh w x m t (.slice da cs.length dc)
  obtain ⟨w0, hw0⟩ : ∃ w0, w.alloc (.cells #[.int .i64 x, .int .i64 m, .int .i64 t, .slice da cs.length dc] 43) = w0 := ⟨_, rfl⟩
  rw [hw0] at hb0 hp0
  obtain ⟨B, hB⟩ : ∃ B, w.heap.size = B := ⟨_, rfl⟩
  rw [hB] at hp0
  have HBE := Lib.hid hB
  have HW0 := Lib.hid hw0
  have HB := Lib.hid hb0
  have HP := Lib.hid hp0
  have HF := Lib.hid (h.below hb0)
  have HS := Lib.hid (hs.below hb0)
  have HT := Lib.hid (hT.below hb0)
  have hC := rValidateS (.slice ad fs.length cp) fs w0 HF.out
  obtain ⟨E, hE⟩ : ∃ E, E = SM.errL (0, 0) fs := ⟨_, rfl⟩
  rw [← hE] at hC
  have HC := Lib.hid hC
  have hS := kShortQ (.slice ad fs.length cp) fs w0 HF.out
  have HFN := Lib.hid (fun e he => show NmFit e from ⟨(hfit e he).2.1, (hfit e he).2.2.1⟩)
  clear h hs hb0 hp0 hw0 hC hT hB hfit
  obtain ⟨p0, p1, p2, p3, _⟩ := HP.out.cells
  by_cases hs60 : (fs.length : Int) ≤ 60
  case neg =>
    rw [decide_eq_false hs60] at hS
    have HS1 := Lib.hid hS
    clear hE hS HC hs60
    go_enter Tryd.func6, Tryd.ntmps6
    go_wp2_with fail
    rw [HW0.out]
    refine HS1.out.mono ?_
    rintro e w1 ⟨rfl, rfl⟩
    go_wp2_with fail
    refine (cAwake12 _ HT.out).mono ?_
    rintro e w2 ⟨rfl, hb⟩
    go_wp2
    go_ret
    exact ⟨rfl, bnext HB.out hb⟩
  rw [decide_eq_true hs60] at hS
  have HS1 := Lib.hid hS
  clear hS
  by_cases hl2 : 60 < cs.length
  · have hq2 : (60 : Int) < (cs.length : Int) := by omega
    clear hE HC
    go_enter Tryd.func6, Tryd.ntmps6
    go_wp2_with fail
    rw [HW0.out]
    refine HS1.out.mono ?_
    rintro e w1 ⟨rfl, rfl⟩
    rw [HBE.out]
    go_wp2_with fail
    refine (cAwake12 _ HT.out).mono ?_
    rintro e w2 ⟨rfl, hb⟩
    go_wp2
    go_ret
    exact ⟨rfl, bnext HB.out hb⟩
  have hq2 : ¬ (60 : Int) < (cs.length : Int) := by omega
  by_cases h1 : E = 0
  · subst h1
    have hok : SM.Ok fs := hE.symm
    have HOK := Lib.hid hok
    clear hE hok
    go_enter Tryd.func6, Tryd.ntmps6
    go_wp2_with fail
    rw [HW0.out]
    refine HS1.out.mono ?_
    rintro e w1 ⟨rfl, rfl⟩
    rw [HBE.out]
    go_wp2_with fail
    refine HC.out.mono ?_
    rintro e w1 ⟨rfl, hb⟩
    replace HP := Lib.hid (HP.out.below hb)
    replace HF := Lib.hid (HF.out.below hb)
    replace HS := Lib.hid (HS.out.below hb)
    replace HT := Lib.hid (HT.out.below hb)
    replace HB := Lib.hid (bnext HB.out hb)
    clear hb HC HW0 p0 p1 p2 p3 HS1
    have hbe := below_fresh w1 (.cells #[] 43)
    have hoe := ownG_empty hlUp 43 w1
    obtain ⟨qs, hq1, hq3⟩ := HF.out
    have hre : RdUp (w1.alloc (.cells #[] 43)) (.slice ad fs.length cp) qs := RdG.below hq1 hbe
    have HTL := Lib.hid hq3
    have hlq : qs.length ≤ 1073741824 := by have := hq3.len; omega
    have hse := hbe.size
    have HBEE := Lib.hid hbe
    clear hq1 hq3 hbe
    go_wp2_with (at_builtin; refine wp_appGS upE rfl _ _ rfl rfl hoe rfl hre (by simp) hlq hse ?_)
    intro v2 w2 ho2 hb2 _
    have hb := HBEE.out.trans hb2
    have HWAS := Lib.hid (show RdF w2 v2 fs from ⟨qs, by simpa using ho2.rd, HTL.out.below hb⟩)
    replace HP := Lib.hid (HP.out.below hb)
    replace HF := Lib.hid (HF.out.below hb)
    replace HS := Lib.hid (HS.out.below hb)
    replace HT := Lib.hid (HT.out.below hb)
    replace HB := Lib.hid (bnext HB.out hb)
    clear ho2 hb2 hb hoe hre hlq hse HTL HBEE
    obtain ⟨p0, p1, p2, p3, _⟩ := HP.out.cells
    have H1 := gAdd _ fs x m t _ cs w2 HF.out HS.out HOK.out HT.out HFN.out
    have H2 := fun w' (hh : RdF w' (.slice ad fs.length cp) fs) (hs : RdEf w' (.slice da cs.length dc) cs) => rAdd _ fs x m t _ cs w' hh hs HOK.out
    generalize SM.addU fs (x, m, t, cs) = R at H1 H2
    obtain ⟨er, gs⟩ := R
    have HC := Lib.hid H1
    have HC2 := Lib.hid H2
    have he : (er == er) = true := beq_t rfl
    clear H1 H2
    go_wp2_with fail
    refine HC.out.mono ?_
    rintro e w3 ⟨v3, rfl, hr, hb⟩
    replace HP := Lib.hid (HP.out.below hb)
    replace HF := Lib.hid (HF.out.below hb)
    replace HS := Lib.hid (HS.out.below hb)
    replace HT := Lib.hid (HT.out.below hb)
    replace HWAS := Lib.hid (HWAS.out.below hb)
    replace HB := Lib.hid (bnext HB.out hb)
    have HR1 := Lib.hid hr
    clear p0 p1 p2 p3 hb hr HC
    obtain ⟨p0, p1, p2, p3, _⟩ := HP.out.cells
    have HC := Lib.hid (HC2.out w3 HF.out HS.out)
    go_wp2_with fail
    refine HC.out.mono ?_
    rintro e w4 ⟨v4, rfl, hr, hb⟩
    replace HF := Lib.hid (HF.out.below hb)
    replace HT := Lib.hid (HT.out.below hb)
    replace HWAS := Lib.hid (HWAS.out.below hb)
    replace HR1 := Lib.hid (HR1.out.below hb)
    replace HB := Lib.hid (bnext HB.out hb)
    have hC := rEqualState _ _ _ _ w4 HR1.out hr
    rw [decide_eq_true rfl] at hC
    clear p0 p1 p2 p3 hb hr HC HC2 HP HS
    have HC := Lib.hid hC
    clear hC
    go_wp2_with fail
    refine HC.out.mono ?_
    rintro e w5 ⟨rfl, hb⟩
    replace HF := Lib.hid (HF.out.below hb)
    replace HT := Lib.hid (HT.out.below hb)
    replace HWAS := Lib.hid (HWAS.out.below hb)
    replace HB := Lib.hid (bnext HB.out hb)
    have hC := rEqualState _ _ _ _ w5 HF.out HWAS.out
    rw [decide_eq_true rfl] at hC
    replace HC := Lib.hid hC
    clear hb hC HR1
    go_wp2_with fail
    refine HC.out.mono ?_
    rintro e w6 ⟨rfl, hb⟩
    replace HT := Lib.hid (HT.out.below hb)
    replace HB := Lib.hid (bnext HB.out hb)
    clear hb HC HF HWAS
    go_wp2_with fail
    refine (cAwake12 w6 HT.out).mono ?_
    rintro e w7 ⟨rfl, hb⟩
    go_wp2
    go_ret
    exact ⟨rfl, bnext HB.out hb⟩
  · have hne : (E != 0) = true := bne_t h1
    clear hE h1
    go_enter Tryd.func6, Tryd.ntmps6
    go_wp2_with fail
    rw [HW0.out]
    refine HS1.out.mono ?_
    rintro e w1 ⟨rfl, rfl⟩
    rw [HBE.out]
    go_wp2_with fail
    refine HC.out.mono ?_
    rintro e w1 ⟨rfl, hb⟩
    replace HT := Lib.hid (HT.out.below hb)
    replace HB := Lib.hid (bnext HB.out hb)
    clear hb HC HP HF HS HW0 p0 p1 p2 p3
    go_wp2_with fail
    refine (cAwake12 w1 HT.out).mono ?_
    rintro e w2 ⟨rfl, hb⟩
    go_wp2
    go_ret
    exact ⟨rfl, bnext HB.out hb⟩

end Go.Proofs.YtdfablboenfblaaDoor.ST

namespace Go.Proofs.YtdfablboenfblaaDoor.ST
open Go.RowKit Go.Joins
open UM (Ef)
open SM (Fp)
open VM (Ent)

theorem encL_le {fs : List Fp} (h : SM.Ok fs) (hf : SM.Fit fs) : (SM.encL fs).length ≤ 10000000000 := by
  unfold SM.encL
  rw [List.length_append]
  have := h.all48
  have := WM.enc_len10 fs.length (by omega)
  have := SM.flat_len h.all hf
  omega

set_option maxRecDepth 100000 in
set_option maxHeartbeats 8000000 in
theorem lStateRoundTrip (v u : Value) (fs : List Fp) (ts : List Int) (w : World) (hT : Tb w) (h : RdF w v fs) (hfit : FitE fs) (ht : Rd w u ts) :
    Calls Tryd.prog 10 #[v, u] w fun e w' => e = .returned (.bool true) ∧ Below w.heap.size w w' := by
  obtain ⟨ad, cp, rfl, hcp, _⟩ := h.shape
  obtain ⟨bd, bp, rfl, hbp⟩ := ht.shape
  have hS := kShortQ (.slice ad fs.length cp) fs w h
  have HT := Lib.hid hT
  clear hT
  by_cases hs60 : (fs.length : Int) ≤ 60
  case neg =>
    rw [decide_eq_false hs60] at hS
    have HS1 := Lib.hid hS
    clear h ht hS hs60
    go_enter Tryd.func10, Tryd.ntmps10
    go_wp2_with fail
    refine HS1.out.mono ?_
    rintro e w1 ⟨rfl, rfl⟩
    go_wp2_with fail
    refine (cAwake12 _ HT.out).mono ?_
    rintro e w1 ⟨rfl, hb⟩
    go_wp2
    go_ret
    exact ⟨rfl, hb⟩
  rw [decide_eq_true hs60] at hS
  have HS1 := Lib.hid hS
  clear hS
  by_cases hl2 : 300 < ts.length
  · have hq2 : (300 : Int) < (ts.length : Int) := by omega
    clear h ht
    go_enter Tryd.func10, Tryd.ntmps10
    go_wp2_with fail
    refine HS1.out.mono ?_
    rintro e w1 ⟨rfl, rfl⟩
    go_wp2_with fail
    refine (cAwake12 _ HT.out).mono ?_
    rintro e w1 ⟨rfl, hb⟩
    go_wp2
    go_ret
    exact ⟨rfl, hb⟩
  have hq2 : ¬ (300 : Int) < (ts.length : Int) := by omega
  have hC := rValidateS _ fs w h
  obtain ⟨E, hE⟩ : ∃ E, E = SM.errL (0, 0) fs := ⟨_, rfl⟩
  rw [← hE] at hC
  have HC := Lib.hid hC
  have HF := Lib.hid h
  have HTL := Lib.hid ht
  clear h ht hC
  by_cases h1 : E = 0
  · subst h1
    have hok : SM.Ok fs := hE.symm
    have HOK := Lib.hid hok
    have HL := Lib.hid (encL_le hok hfit.i)
    have HDL := Lib.hid (SM.decL_enc hok hfit.i ts)
    clear hE hok
    go_enter Tryd.func10, Tryd.ntmps10
    go_wp2_with fail
    refine HS1.out.mono ?_
    rintro e w1 ⟨rfl, rfl⟩
    go_wp2_with fail
    refine HC.out.mono ?_
    rintro e w1 ⟨rfl, hb⟩
    replace HF := Lib.hid (HF.out.below hb)
    replace HTL := Lib.hid (HTL.out.below hb)
    replace HT := Lib.hid (HT.out.below hb)
    have HB := Lib.hid hb
    have hC := gAppendC (.slice none 0 0) [] _ fs w1 (Rd.nil _) HF.out HOK.out hfit.i (by simp)
    rw [List.nil_append] at hC
    replace HC := Lib.hid hC
    clear hb hC
    go_wp2_with fail
    refine HC.out.mono ?_
    rintro e w2 ⟨v2, rfl, ho, hb⟩
    replace HF := Lib.hid (HF.out.below hb)
    replace HTL := Lib.hid (HTL.out.below hb)
    replace HT := Lib.hid (HT.out.below hb)
    replace HB := Lib.hid (bnext HB.out hb)
    have hr2 := ho.rd
    obtain ⟨a2, c2, rfl, hc2⟩ := hr2.shape
    have hbe := below_empty w2
    have hoe := own_empty w2
    have hre := hr2.below hbe
    have hlE : (SM.encL fs).length ≤ 35184372088832 := by have := HL.out; omega
    have hse := hbe.size
    have HV := Lib.hid hr2
    have HBE := Lib.hid hbe
    clear ho hb HC hr2 hbe
    go_wp2_with (at_builtin; refine wp_appS rfl _ _ rfl rfl hoe rfl hre (by simp) hlE hse ?_)
    intro v3 w3 ho3 hb3
    have hb := HBE.out.trans hb3
    have htl := HTL.out.below hb
    have hs3 := hb.size
    have hlT : ts.length ≤ 35184372088832 := by omega
    have HB3 := Lib.hid hb
    clear hb3 hoe hre hse hb HBE
    go_wp2_with (at_builtin; refine wp_appS rfl _ _ rfl rfl ho3 rfl htl hlE hlT hs3 ?_)
    intro v4 w4 ho4 hb4
    have hb := HB3.out.trans hb4
    replace HF := Lib.hid (HF.out.below hb)
    replace HV := Lib.hid (HV.out.below hb)
    replace HT := Lib.hid (HT.out.below hb)
    replace HB := Lib.hid (bnext HB.out hb)
    have hC := gDecodeC v4 _ w4 HT.out ho4.rd
    rw [HDL.out] at hC
    have HC := Lib.hid hC
    clear hb hb4 ho3 ho4 htl hs3 hlE hlT HB3 HTL hC HDL
    go_wp2_with fail
    refine HC.out.mono ?_
    rintro e w5 ⟨v5, rfl, hr, hb⟩
    replace HF := Lib.hid (HF.out.below hb)
    replace HV := Lib.hid (HV.out.below hb)
    replace HT := Lib.hid (HT.out.below hb)
    replace HB := Lib.hid (bnext HB.out hb)
    have HR := Lib.hid hr
    have hnn : ∀ n : Nat, ((n : Int) == (n : Int)) = true := fun n => beq_t rfl
    have hNN := hnn (SM.encL fs).length
    have HAP := Lib.hid (fun w' (hh : RdF w' (.slice ad fs.length cp) fs) => rAppendC (.slice none 0 0) [] _ fs w' (Rd.nil _) hh HOK.out hfit.i (by simp))
    have HEQ := Lib.hid (fun w' (hh : RdF w' (.slice ad fs.length cp) fs) (hk : RdF w' v5 fs) => (show Calls Tryd.prog 23 #[.slice ad fs.length cp, v5] w' fun e w'' => e = .returned (.bool true) ∧ Below w'.heap.size w' w'' from by
      have := rEqualState _ _ _ _ w' hh hk
      rw [decide_eq_true rfl] at this
      exact this))
    obtain ⟨L, hL⟩ : ∃ L, L = (SM.encL fs).length := ⟨_, rfl⟩
    rw [← hL] at hNN ⊢
    have HLL := Lib.hid hL
    obtain ⟨X, hX⟩ : ∃ X, X = SM.encL fs := ⟨_, rfl⟩
    have HV2 := Lib.hid (show Rd w5 (.slice a2 L c2) X by rw [hX, hL]; exact HV.out)
    have HAP2 := Lib.hid (show ∀ w', RdF w' (.slice ad fs.length cp) fs → Calls Tryd.prog 40 #[.slice none 0 0, .slice ad fs.length cp] w' fun e w'' => ∃ v', e = .returned v' ∧ Rd w'' v' X ∧ Below w'.heap.size w' w'' from fun w' hh => by
      have := HAP.out w' hh
      rw [List.nil_append] at this
      rw [hX]; exact this)
    clear hb hr HC hL hX HV HAP HL hnn
    go_wp2
    refine wp_region_held_drew (S := fun w' => Below w5.heap.size w5 w') (by kernel_rfl) ((Below.refl _ _).drew) (fun ha => ?_)
    replace ha : Below w5.heap.size w5 w5.drew := (Below.refl _ _).drew
    generalize w5.drew = wa at ha ⊢
    refine takeH (i := 0) (v := ?_) rfl (by kernel_rfl) (by kernel_rfl) (by kernel_rfl) (fun _ _ _ h => h) (Or.inl ⟨by rfl, ?_⟩) (by assumption) ?_
    rotate_left
    · (intro w hSw; (try dsimp only at hSw); go_simp; first | done | with_reducible rfl)
    (try simp only [Act.put, List.setIfInBounds_toArray, List.set_cons_zero, List.set_cons_succ])
    refine takeH (i := 1) (v := ?_) rfl (by kernel_rfl) (by kernel_rfl) (by kernel_rfl) (fun _ _ _ h => h) (Or.inl ⟨by rfl, ?_⟩) (by assumption) ?_
    rotate_left
    · (intro w hSw; (try dsimp only at hSw); have hst := Rd.str (HV2.out.below hSw); go_simp; first | done | with_reducible rfl)
    (try simp only [Act.put, List.setIfInBounds_toArray, List.set_cons_zero, List.set_cons_succ])
    refine takeH (i := 2) (v := ?_) rfl (by kernel_rfl) (by kernel_rfl) (by kernel_rfl) (fun _ _ _ h => h) (Or.inl ⟨by rfl, ?_⟩) (by assumption) ?_
    rotate_left
    · (intro w hSw; (try dsimp only at hSw); go_simp; first | done | with_reducible rfl)
    (try simp only [Act.put, List.setIfInBounds_toArray, List.set_cons_zero, List.set_cons_succ])
    refine wpAnyH_ready (rs := [3]) (by kernel_rfl) (by simp) ?_
    refine stepH rfl (fun K hK => ?_) AllReadyH.nil
    go_simp
    refine (HAP2.out wa (HF.out.below ha)).mono ?_
    rintro e wb ⟨vb, rfl, hrb, hq⟩
    obtain ⟨ab, cb, rfl, _⟩ := hrb.shape
    have hb := bnext ha hq
    go_wp2_with fail
    refine hK.out _ _ (hb) (fun _ => ?_)
    clear hK K
    (try simp only [Act.put, List.setIfInBounds_toArray, List.set_cons_zero, List.set_cons_succ])
    refine wpAnyH_ready (rs := [4]) (by kernel_rfl) (by simp) ?_
    refine stepH rfl (fun K hK => ?_) AllReadyH.nil
    have hst := Rd.str hrb
    go_simp
    refine hK.out _ _ (hb) (fun _ => ?_)
    clear hK K
    (try simp only [Act.put, List.setIfInBounds_toArray, List.set_cons_zero, List.set_cons_succ])
    refine takeH (i := 5) (v := ?_) rfl (by kernel_rfl) (by kernel_rfl) (by kernel_rfl) (fun _ _ _ h => h) (Or.inl ⟨by rfl, ?_⟩) (by assumption) ?_
    rotate_left
    · (intro w hSw; (try dsimp only at hSw); go_simp; first | done | with_reducible rfl)
    (try simp only [Act.put, List.setIfInBounds_toArray, List.set_cons_zero, List.set_cons_succ])
    refine takeH (i := 6) (v := ?_) rfl (by kernel_rfl) (by kernel_rfl) (by kernel_rfl) (fun _ _ _ h => h) (Or.inl ⟨by rfl, ?_⟩) (by assumption) ?_
    rotate_left
    · (intro w hSw; (try dsimp only at hSw); go_simp; first | done | with_reducible rfl)
    (try simp only [Act.put, List.setIfInBounds_toArray, List.set_cons_zero, List.set_cons_succ])
    refine takeH (i := 7) (v := ?_) rfl (by kernel_rfl) (by kernel_rfl) (by kernel_rfl) (fun _ _ _ h => h) (Or.inl ⟨by rfl, ?_⟩) (by assumption) ?_
    rotate_left
    · (intro w hSw; (try dsimp only at hSw); go_simp; first | done | with_reducible rfl)
    (try simp only [Act.put, List.setIfInBounds_toArray, List.set_cons_zero, List.set_cons_succ])
    refine takeH (i := 8) (v := ?_) rfl (by kernel_rfl) (by kernel_rfl) (by kernel_rfl) (fun _ _ _ h => h) (Or.inl ⟨by rfl, ?_⟩) (by assumption) ?_
    rotate_left
    · (intro w hSw; (try dsimp only at hSw); go_simp; first | done | with_reducible rfl)
    (try simp only [Act.put, List.setIfInBounds_toArray, List.set_cons_zero, List.set_cons_succ])
    refine takeH (i := 9) (v := ?_) rfl (by kernel_rfl) (by kernel_rfl) (by kernel_rfl) (fun _ _ _ h => h) (Or.inl ⟨by rfl, ?_⟩) (by assumption) ?_
    rotate_left
    · (intro w hSw; (try dsimp only at hSw); go_simp; first | done | with_reducible rfl)
    (try simp only [Act.put, List.setIfInBounds_toArray, List.set_cons_zero, List.set_cons_succ])
    refine takeH (i := 10) (v := ?_) rfl (by kernel_rfl) (by kernel_rfl) (by kernel_rfl) (fun _ _ _ h => h) (Or.inl ⟨by rfl, ?_⟩) (by assumption) ?_
    rotate_left
    · (intro w hSw; (try dsimp only at hSw); go_simp; first | done | with_reducible rfl)
    (try simp only [Act.put, List.setIfInBounds_toArray, List.set_cons_zero, List.set_cons_succ])
    refine takeH (i := 11) (v := ?_) rfl (by kernel_rfl) (by kernel_rfl) (by kernel_rfl) (fun _ _ _ h => h) (Or.inl ⟨by rfl, ?_⟩) (by assumption) ?_
    rotate_left
    · (intro w hSw; (try dsimp only at hSw); go_simp; first | done | with_reducible rfl)
    (try simp only [Act.put, List.setIfInBounds_toArray, List.set_cons_zero, List.set_cons_succ])
    refine takeH (i := 12) (v := ?_) rfl (by kernel_rfl) (by kernel_rfl) (by kernel_rfl) (fun _ _ _ h => h) (Or.inl ⟨by rfl, ?_⟩) (by assumption) ?_
    rotate_left
    · (intro w hSw; (try dsimp only at hSw); go_simp; first | done | with_reducible rfl)
    (try simp only [Act.put, List.setIfInBounds_toArray, List.set_cons_zero, List.set_cons_succ])
    refine takeH (i := 13) (v := ?_) rfl (by kernel_rfl) (by kernel_rfl) (by kernel_rfl) (fun _ _ _ h => h) (Or.inl ⟨by rfl, ?_⟩) (by assumption) ?_
    rotate_left
    · (intro w hSw; (try dsimp only at hSw); go_simp; first | done | with_reducible rfl)
    (try simp only [Act.put, List.setIfInBounds_toArray, List.set_cons_zero, List.set_cons_succ])
    refine takeH (i := 14) (v := ?_) rfl (by kernel_rfl) (by kernel_rfl) (by kernel_rfl) (fun _ _ _ h => h) (Or.inl ⟨by rfl, ?_⟩) (by assumption) ?_
    rotate_left
    · (intro w hSw; (try dsimp only at hSw); go_simp; first | done | with_reducible rfl)
    (try simp only [Act.put, List.setIfInBounds_toArray, List.set_cons_zero, List.set_cons_succ])
    refine takeH (i := 15) (v := ?_) rfl (by kernel_rfl) (by kernel_rfl) (by kernel_rfl) (fun _ _ _ h => h) (Or.inl ⟨by rfl, ?_⟩) (by assumption) ?_
    rotate_left
    · (intro w hSw; (try dsimp only at hSw); go_simp; first | done | with_reducible rfl)
    (try simp only [Act.put, List.setIfInBounds_toArray, List.set_cons_zero, List.set_cons_succ])
    refine takeH (i := 16) (v := ?_) rfl (by kernel_rfl) (by kernel_rfl) (by kernel_rfl) (fun _ _ _ h => h) (Or.inl ⟨by rfl, ?_⟩) (by assumption) ?_
    rotate_left
    · (intro w hSw; (try dsimp only at hSw); go_simp; first | done | with_reducible rfl)
    (try simp only [Act.put, List.setIfInBounds_toArray, List.set_cons_zero, List.set_cons_succ])
    refine takeH (i := 17) (v := ?_) rfl (by kernel_rfl) (by kernel_rfl) (by kernel_rfl) (fun _ _ _ h => h) (Or.inl ⟨by rfl, ?_⟩) (by assumption) ?_
    rotate_left
    · (intro w hSw; (try dsimp only at hSw); go_simp; first | done | with_reducible rfl)
    (try simp only [Act.put, List.setIfInBounds_toArray, List.set_cons_zero, List.set_cons_succ])
    refine takeH (i := 18) (v := ?_) rfl (by kernel_rfl) (by kernel_rfl) (by kernel_rfl) (fun _ _ _ h => h) (Or.inl ⟨by rfl, ?_⟩) (by assumption) ?_
    rotate_left
    · (intro w hSw; (try dsimp only at hSw); go_simp; first | done | with_reducible rfl)
    (try simp only [Act.put, List.setIfInBounds_toArray, List.set_cons_zero, List.set_cons_succ])
    refine wpAnyH_ready (rs := [19]) (by kernel_rfl) (by simp) ?_
    refine stepH rfl (fun K hK => ?_) AllReadyH.nil
    go_simp
    refine (HEQ.out wb (HF.out.below hb) (HR.out.below hb)).mono ?_
    rintro e wc ⟨rfl, hq⟩
    have hc := bnext hb hq
    go_wp2_with fail
    refine hK.out _ _ (hc) (fun _ => ?_)
    clear hK K
    (try simp only [Act.put, List.setIfInBounds_toArray, List.set_cons_zero, List.set_cons_succ])
    refine takeH (i := 20) (v := ?_) rfl (by kernel_rfl) (by kernel_rfl) (by kernel_rfl) (fun _ _ _ h => h) (Or.inl ⟨by rfl, ?_⟩) (by assumption) ?_
    rotate_left
    · (intro w hSw; (try dsimp only at hSw); go_simp; first | done | with_reducible rfl)
    (try simp only [Act.put, List.setIfInBounds_toArray, List.set_cons_zero, List.set_cons_succ])
    refine takeH (i := 21) (v := ?_) rfl (by kernel_rfl) (by kernel_rfl) (by kernel_rfl) (fun _ _ _ h => h) (Or.inl ⟨by rfl, ?_⟩) (by assumption) ?_
    rotate_left
    · (intro w hSw; (try dsimp only at hSw); go_simp; first | done | with_reducible rfl)
    (try simp only [Act.put, List.setIfInBounds_toArray, List.set_cons_zero, List.set_cons_succ])
    refine wpAnyH_ready (rs := [22]) (by kernel_rfl) (by simp) ?_
    refine stepH rfl (fun K hK => ?_) AllReadyH.nil
    go_simp
    refine (cAwake12 wc (HT.out.below hc)).mono ?_
    rintro e wd ⟨rfl, hq⟩
    have hd := bnext hc hq
    go_wp2_with fail
    refine hK.out _ _ (hd) (fun _ => ?_)
    clear hK K
    (try simp only [Act.put, List.setIfInBounds_toArray, List.set_cons_zero, List.set_cons_succ])
    refine takeH (i := 23) (v := ?_) rfl (by kernel_rfl) (by kernel_rfl) (by kernel_rfl) (fun _ _ _ h => h) (Or.inl ⟨by rfl, ?_⟩) (by assumption) ?_
    rotate_left
    · (intro w hSw; (try dsimp only at hSw); go_simp; first | done | with_reducible rfl)
    (try simp only [Act.put, List.setIfInBounds_toArray, List.set_cons_zero, List.set_cons_succ])
    refine takeH (i := 24) (v := ?_) rfl (by kernel_rfl) (by kernel_rfl) (by kernel_rfl) (fun _ _ _ h => h) (Or.inl ⟨by rfl, ?_⟩) (by assumption) ?_
    rotate_left
    · (intro w hSw; (try dsimp only at hSw); go_simp; first | done | with_reducible rfl)
    (try simp only [Act.put, List.setIfInBounds_toArray, List.set_cons_zero, List.set_cons_succ])
    refine wpAnyH_done (by kernel_rfl) ?_ _
    have HD := Lib.hid (bnext HB.out hd)
    clear ha hb hc hd
    go_wp2
    go_ret
    exact ⟨rfl, HD.out⟩
  · have hne : (E != 0) = true := bne_t h1
    clear hE h1
    go_enter Tryd.func10, Tryd.ntmps10
    go_wp2_with fail
    refine HS1.out.mono ?_
    rintro e w1 ⟨rfl, rfl⟩
    go_wp2_with fail
    refine HC.out.mono ?_
    rintro e w1 ⟨rfl, hb⟩
    have HB := Lib.hid hb
    replace HT := Lib.hid (HT.out.below hb)
    clear hb HC HF HTL
    go_wp2_with fail
    refine (cAwake12 w1 HT.out).mono ?_
    rintro e w2 ⟨rfl, hb⟩
    go_wp2
    go_ret
    exact ⟨rfl, bnext HB.out hb⟩

end Go.Proofs.YtdfablboenfblaaDoor.ST

namespace Go.Proofs.YtdfablboenfblaaDoor.ST
open Go.RowKit Go.Joins
open UM (Ef)
open SM (Fp)
open VM (Ent)

theorem pUnion (va vb : Value) (p : List Fp) (g k : Int → Int) (w : World) (h : SM.Ok p) (ha : RdF w va (SM.rs p g)) (hb : RdF w vb (SM.rs p k)) :
    Calls Tryd.prog 24 #[va, vb] w fun e w' => ∃ v', e = .returned v' ∧ RdF w' v' (SM.rs p (SM.mx g k)) ∧ Below w.heap.size w w' := by
  have := oUnion va vb _ _ w ha hb (h.rs g) (h.rs k)
  rw [SM.un_rs h.srt] at this
  exact this
theorem pEqual (va vb : Value) (xs ys : List Fp) (w : World) (ha : RdF w va xs) (hb : RdF w vb ys) (he : xs = ys) :
    Calls Tryd.prog 23 #[va, vb] w fun e w' => e = .returned (.bool true) ∧ Below w.heap.size w w' := by
  have := rEqualState va vb xs ys w ha hb
  rw [decide_eq_true he] at this
  exact this
theorem pValid (v : Value) (p : List Fp) (g : Int → Int) (w : World) (hT : Tb w) (h : SM.Ok p) (ha : RdF w v (SM.rs p g)) :
    Calls Tryd.prog 14 #[v] w fun e w' => e = .returned (.int .i64 0) ∧ Below w.heap.size w w' := by
  have := gValidate v _ w hT (fitN_ok (h.rs g).all) ha
  rw [show SM.errL (0, 0) (SM.rs p g) = 0 from h.rs g] at this
  exact this
theorem pContains (va vb : Value) (p : List Fp) (g k : Int → Int) (w : World) (h : SM.Ok p) (ha : RdF w va (SM.rs p g)) (hb : RdF w vb (SM.rs p k)) :
    Calls Tryd.prog 20 #[va, vb] w fun e w' => e = .returned (.bool (SM.cons (SM.rs p g) (SM.rs p k))) ∧ Below w.heap.size w w' :=
  oContains va vb _ _ w ha hb (h.rs g)
theorem pVector (v : Value) (p : List Fp) (g : Int → Int) (w : World) (h : SM.Ok p) (ha : RdF w v (SM.rs p g)) :
    Calls Tryd.prog 18 #[v] w fun e w' => ∃ v', e = .returned v' ∧ OwnE w.heap.size w' v' (SM.vo (SM.rs p g)) ∧ Below w.heap.size w w' :=
  oVector v _ w ha (h.rs g)
theorem kSomeR (v : Value) (p : List Fp) (n : Int) (w : World) (h : RdF w v p) (ho : SM.Ok p) :
    Calls Tryd.prog 27 #[v, .int .i64 n] w fun e w' => ∃ u g, e = .returned u ∧ RdF w' u (SM.rs p g) ∧ Below w.heap.size w w' :=
  (kSome v p n w h ho.all (by have := ho.all48; omega)).mono (by rintro e w' ⟨u, h1, h2, h3⟩; exact ⟨u, _, h1, h2, h3⟩)

set_option maxRecDepth 100000 in
set_option maxHeartbeats 8000000 in
theorem lStateLattice (v : Value) (l : List Int) (x y z : Int) (w : World) (hT : Tb w) (h : RdI w v l) (hl : l.length ≤ 4611686018427387904) :
    Calls Tryd.prog 5 #[v, .int .i64 x, .int .i64 y, .int .i64 z] w fun e w' => e = .returned (.bool true) ∧ Below w.heap.size w w' := by
  have HP := Lib.hid (kUpdatesV v l w h hl)
  have HT := Lib.hid hT
  obtain ⟨ad, cp, rfl, _, _⟩ := h.shape
  clear h hl hT
  have HB := Lib.hid (Below.refl w.heap.size w)
  go_enter Tryd.func5, Tryd.ntmps5
  go_wp2_with fail
  refine HP.out.mono ?_
  rintro e w1 ⟨vp, p, rfl, hr, hok, _, hb⟩
  replace HT := Lib.hid (HT.out.below hb)
  replace HB := Lib.hid (bnext HB.out hb)
  have P := Lib.hid hr
  have HOK := Lib.hid hok
  have hp9 := hok.all48
  clear hr hok hb HP
  have hC := kSomeR _ p x w1 P.out HOK.out
  have HC := Lib.hid hC
  clear hC
  go_wp2_with fail
  refine HC.out.mono ?_
  rintro e w2 ⟨vA, gA, rfl, hr, hb⟩
  replace HT := Lib.hid (HT.out.below hb)
  replace P := Lib.hid (P.out.below hb)
  replace HB := Lib.hid (bnext HB.out hb)
  have A := Lib.hid hr
  clear hb HC hr
  have hC := kSomeR _ p y w2 P.out HOK.out
  have HC := Lib.hid hC
  clear hC
  go_wp2_with fail
  refine HC.out.mono ?_
  rintro e w3 ⟨vB, gB, rfl, hr, hb⟩
  replace HT := Lib.hid (HT.out.below hb)
  replace P := Lib.hid (P.out.below hb)
  replace A := Lib.hid (A.out.below hb)
  replace HB := Lib.hid (bnext HB.out hb)
  have B := Lib.hid hr
  clear hb HC hr
  have hC := kSomeR _ p z w3 P.out HOK.out
  have HC := Lib.hid hC
  clear hC
  go_wp2_with fail
  refine HC.out.mono ?_
  rintro e w4 ⟨vC, gC, rfl, hr, hb⟩
  replace HT := Lib.hid (HT.out.below hb)
  replace P := Lib.hid (P.out.below hb)
  replace A := Lib.hid (A.out.below hb)
  replace B := Lib.hid (B.out.below hb)
  replace HB := Lib.hid (bnext HB.out hb)
  have C := Lib.hid hr
  clear hb HC hr
  have hC := pUnion _ _ p gA gB w4 HOK.out A.out B.out
  have HC := Lib.hid hC
  clear hC
  go_wp2_with fail
  refine HC.out.mono ?_
  rintro e w5 ⟨vU, rfl, hr, hb⟩
  replace HT := Lib.hid (HT.out.below hb)
  replace P := Lib.hid (P.out.below hb)
  replace A := Lib.hid (A.out.below hb)
  replace B := Lib.hid (B.out.below hb)
  replace C := Lib.hid (C.out.below hb)
  replace HB := Lib.hid (bnext HB.out hb)
  have U := Lib.hid hr
  clear hb HC hr
  have hC := pValid _ p _ w5 HT.out HOK.out U.out
  have HC := Lib.hid hC
  clear hC
  go_wp2_with fail
  refine HC.out.mono ?_
  rintro e w6 ⟨rfl, hb⟩
  replace HT := Lib.hid (HT.out.below hb)
  replace P := Lib.hid (P.out.below hb)
  replace A := Lib.hid (A.out.below hb)
  replace B := Lib.hid (B.out.below hb)
  replace C := Lib.hid (C.out.below hb)
  replace U := Lib.hid (U.out.below hb)
  replace HB := Lib.hid (bnext HB.out hb)
  clear hb HC
  have hC := pUnion _ _ p gB gA w6 HOK.out B.out A.out
  have HC := Lib.hid hC
  clear hC
  go_wp2_with fail
  refine HC.out.mono ?_
  rintro e w7 ⟨vT, rfl, hr, hb⟩
  replace HT := Lib.hid (HT.out.below hb)
  replace P := Lib.hid (P.out.below hb)
  replace A := Lib.hid (A.out.below hb)
  replace B := Lib.hid (B.out.below hb)
  replace C := Lib.hid (C.out.below hb)
  replace U := Lib.hid (U.out.below hb)
  replace HB := Lib.hid (bnext HB.out hb)
  have T := Lib.hid hr
  clear hb HC hr
  have hC := pEqual _ _ _ _ w7 U.out T.out (by rw [SM.mx_comm])
  have HC := Lib.hid hC
  clear hC
  go_wp2_with fail
  refine HC.out.mono ?_
  rintro e w8 ⟨rfl, hb⟩
  clear T
  replace HT := Lib.hid (HT.out.below hb)
  replace P := Lib.hid (P.out.below hb)
  replace A := Lib.hid (A.out.below hb)
  replace B := Lib.hid (B.out.below hb)
  replace C := Lib.hid (C.out.below hb)
  replace U := Lib.hid (U.out.below hb)
  replace HB := Lib.hid (bnext HB.out hb)
  clear hb HC
  have hC := pUnion _ _ p _ gC w8 HOK.out U.out C.out
  have HC := Lib.hid hC
  clear hC
  go_wp2_with fail
  refine HC.out.mono ?_
  rintro e w9 ⟨vT1, rfl, hr, hb⟩
  replace HT := Lib.hid (HT.out.below hb)
  replace P := Lib.hid (P.out.below hb)
  replace A := Lib.hid (A.out.below hb)
  replace B := Lib.hid (B.out.below hb)
  replace C := Lib.hid (C.out.below hb)
  replace U := Lib.hid (U.out.below hb)
  replace HB := Lib.hid (bnext HB.out hb)
  have T1 := Lib.hid hr
  clear hb HC hr
  have hC := pUnion _ _ p gB gC w9 HOK.out B.out C.out
  have HC := Lib.hid hC
  clear hC
  go_wp2_with fail
  refine HC.out.mono ?_
  rintro e w10 ⟨vT2, rfl, hr, hb⟩
  replace HT := Lib.hid (HT.out.below hb)
  replace P := Lib.hid (P.out.below hb)
  replace A := Lib.hid (A.out.below hb)
  replace B := Lib.hid (B.out.below hb)
  replace C := Lib.hid (C.out.below hb)
  replace U := Lib.hid (U.out.below hb)
  replace T1 := Lib.hid (T1.out.below hb)
  replace HB := Lib.hid (bnext HB.out hb)
  have T2 := Lib.hid hr
  clear hb HC hr
  have hC := pUnion _ _ p gA _ w10 HOK.out A.out T2.out
  have HC := Lib.hid hC
  clear hC
  go_wp2_with fail
  refine HC.out.mono ?_
  rintro e w11 ⟨vT3, rfl, hr, hb⟩
  replace HT := Lib.hid (HT.out.below hb)
  replace P := Lib.hid (P.out.below hb)
  replace A := Lib.hid (A.out.below hb)
  replace B := Lib.hid (B.out.below hb)
  replace C := Lib.hid (C.out.below hb)
  replace U := Lib.hid (U.out.below hb)
  replace T1 := Lib.hid (T1.out.below hb)
  replace T2 := Lib.hid (T2.out.below hb)
  replace HB := Lib.hid (bnext HB.out hb)
  have T3 := Lib.hid hr
  clear hb HC hr
  have hC := pEqual _ _ _ _ w11 T1.out T3.out (by rw [SM.mx_assoc])
  have HC := Lib.hid hC
  clear hC
  go_wp2_with fail
  refine HC.out.mono ?_
  rintro e w12 ⟨rfl, hb⟩
  clear T1
  clear T2
  clear T3
  replace HT := Lib.hid (HT.out.below hb)
  replace P := Lib.hid (P.out.below hb)
  replace A := Lib.hid (A.out.below hb)
  replace B := Lib.hid (B.out.below hb)
  replace C := Lib.hid (C.out.below hb)
  replace U := Lib.hid (U.out.below hb)
  replace HB := Lib.hid (bnext HB.out hb)
  clear hb HC
  have hC := pUnion _ _ p gA gA w12 HOK.out A.out A.out
  have HC := Lib.hid hC
  clear hC
  go_wp2_with fail
  refine HC.out.mono ?_
  rintro e w13 ⟨vT, rfl, hr, hb⟩
  replace HT := Lib.hid (HT.out.below hb)
  replace P := Lib.hid (P.out.below hb)
  replace A := Lib.hid (A.out.below hb)
  replace B := Lib.hid (B.out.below hb)
  replace C := Lib.hid (C.out.below hb)
  replace U := Lib.hid (U.out.below hb)
  replace HB := Lib.hid (bnext HB.out hb)
  have T := Lib.hid hr
  clear hb HC hr
  have hC := pEqual _ _ _ _ w13 T.out A.out (by rw [SM.mx_self])
  have HC := Lib.hid hC
  clear hC
  go_wp2_with fail
  refine HC.out.mono ?_
  rintro e w14 ⟨rfl, hb⟩
  clear T
  replace HT := Lib.hid (HT.out.below hb)
  replace P := Lib.hid (P.out.below hb)
  replace A := Lib.hid (A.out.below hb)
  replace B := Lib.hid (B.out.below hb)
  replace C := Lib.hid (C.out.below hb)
  replace U := Lib.hid (U.out.below hb)
  replace HB := Lib.hid (bnext HB.out hb)
  clear hb HC
  have hbo := SM.cons_both p gC gA gB
  have HU8 := Lib.hid (SM.cons_un p gA gB)
  obtain ⟨X1, hX1⟩ : ∃ b, b = SM.cons (SM.rs p gC) (SM.rs p gA) := ⟨_, rfl⟩
  obtain ⟨X2, hX2⟩ : ∃ b, b = SM.cons (SM.rs p gC) (SM.rs p gB) := ⟨_, rfl⟩
  obtain ⟨Y, hY⟩ : ∃ b, b = SM.cons (SM.rs p gA) (SM.rs p gB) := ⟨_, rfl⟩
  rw [← hX1, ← hX2] at hbo
  rw [← hY] at HU8
  have HBO := Lib.hid hbo
  have HX1 := Lib.hid hX1
  have HX2 := Lib.hid hX2
  have HY := Lib.hid hY
  have hyy : (Y != Y) = false := by cases Y <;> rfl
  have hyz : (Y == Y) = true := by cases Y <;> rfl
  clear hbo hX1 hX2 hY
  have hC := pContains _ _ p gA gB w14 HOK.out A.out B.out
  rw [← HY.out] at hC
  have HC := Lib.hid hC
  clear hC
  go_wp2_with fail
  refine HC.out.mono ?_
  rintro e w15 ⟨rfl, hb⟩
  replace HT := Lib.hid (HT.out.below hb)
  replace P := Lib.hid (P.out.below hb)
  replace A := Lib.hid (A.out.below hb)
  replace B := Lib.hid (B.out.below hb)
  replace C := Lib.hid (C.out.below hb)
  replace U := Lib.hid (U.out.below hb)
  replace HB := Lib.hid (bnext HB.out hb)
  clear hb HC
  have hC := rEqualState _ _ _ _ w15 U.out A.out
  rw [HU8.out] at hC
  have HC := Lib.hid hC
  clear hC
  go_wp2_with fail
  refine HC.out.mono ?_
  rintro e w16 ⟨rfl, hb⟩
  replace HT := Lib.hid (HT.out.below hb)
  replace P := Lib.hid (P.out.below hb)
  replace A := Lib.hid (A.out.below hb)
  replace B := Lib.hid (B.out.below hb)
  replace C := Lib.hid (C.out.below hb)
  replace U := Lib.hid (U.out.below hb)
  replace HB := Lib.hid (bnext HB.out hb)
  clear hb HC
  cases X1
  · have hC := pContains _ _ p gC gA w16 HOK.out C.out A.out
    rw [← HX1.out] at hC
    have HC := Lib.hid hC
    clear hC
    go_wp2_with fail
    refine HC.out.mono ?_
    rintro e w17 ⟨rfl, hb⟩
    replace HT := Lib.hid (HT.out.below hb)
    replace P := Lib.hid (P.out.below hb)
    replace A := Lib.hid (A.out.below hb)
    replace B := Lib.hid (B.out.below hb)
    replace C := Lib.hid (C.out.below hb)
    replace U := Lib.hid (U.out.below hb)
    replace HB := Lib.hid (bnext HB.out hb)
    clear hb HC
    have hla := SM.vo_len (SM.rs p gA)
    have hlb := SM.vo_len (SM.rs p gB)
    have hra := SM.rs_len p gA
    have hrb := SM.rs_len p gB
    have HVB := Lib.hid (SM.vo_spec (HOK.out.rs gB)).1
    have hC := pVector _ p _ w17 HOK.out U.out
    have HC := Lib.hid hC
    clear hC
    go_wp2_with fail
    refine HC.out.mono ?_
    rintro e w18 ⟨vT1, rfl, ho, hb⟩
    replace HT := Lib.hid (HT.out.below hb)
    replace P := Lib.hid (P.out.below hb)
    replace A := Lib.hid (A.out.below hb)
    replace B := Lib.hid (B.out.below hb)
    replace C := Lib.hid (C.out.below hb)
    replace U := Lib.hid (U.out.below hb)
    replace HB := Lib.hid (bnext HB.out hb)
    have T1 := Lib.hid ho
    clear hb HC ho
    have hC := pVector _ p gA w18 HOK.out A.out
    have HC := Lib.hid hC
    clear hC
    go_wp2_with fail
    refine HC.out.mono ?_
    rintro e w19 ⟨vV, rfl, ho, hb⟩
    replace HT := Lib.hid (HT.out.below hb)
    replace P := Lib.hid (P.out.below hb)
    replace A := Lib.hid (A.out.below hb)
    replace B := Lib.hid (B.out.below hb)
    replace C := Lib.hid (C.out.below hb)
    replace U := Lib.hid (U.out.below hb)
    replace T1 := Lib.hid (T1.out.below hb)
    replace HB := Lib.hid (bnext HB.out hb)
    have V := Lib.hid ho
    clear hb HC ho
    have hC := pVector _ p gB w19 HOK.out B.out
    have HC := Lib.hid hC
    clear hC
    go_wp2_with fail
    refine HC.out.mono ?_
    rintro e w20 ⟨vX, rfl, ho, hb⟩
    replace HT := Lib.hid (HT.out.below hb)
    replace P := Lib.hid (P.out.below hb)
    replace A := Lib.hid (A.out.below hb)
    replace B := Lib.hid (B.out.below hb)
    replace C := Lib.hid (C.out.below hb)
    replace U := Lib.hid (U.out.below hb)
    replace T1 := Lib.hid (T1.out.below hb)
    replace V := Lib.hid (V.out.below hb)
    replace HB := Lib.hid (bnext HB.out hb)
    have X := Lib.hid ho
    clear hb HC ho
    have hC := VX.rJoin _ _ (SM.vo (SM.rs p gA)) (SM.vo (SM.rs p gB)) w20 (OwnE.rdV V.out) (OwnE.rdV X.out) HVB.out (by omega) (by omega)
    have HC := Lib.hid hC
    clear hC
    go_wp2_with fail
    refine HC.out.mono ?_
    rintro e w21 ⟨vT2, rfl, ho, hb⟩
    replace HT := Lib.hid (HT.out.below hb)
    replace P := Lib.hid (P.out.below hb)
    replace A := Lib.hid (A.out.below hb)
    replace B := Lib.hid (B.out.below hb)
    replace C := Lib.hid (C.out.below hb)
    replace U := Lib.hid (U.out.below hb)
    replace T1 := Lib.hid (T1.out.below hb)
    replace V := Lib.hid (V.out.below hb)
    replace X := Lib.hid (X.out.below hb)
    replace HB := Lib.hid (bnext HB.out hb)
    have T2 := Lib.hid (vx_ownE ho)
    clear hb HC ho
    have hC := VX.rEqual _ _ _ _ w21 (OwnE.rdV T1.out) (OwnE.rdV T2.out)
    rw [SM.vo_mx HOK.out, decide_eq_true rfl] at hC
    have HC := Lib.hid hC
    clear hC
    go_wp2_with fail
    refine HC.out.mono ?_
    rintro e w22 ⟨rfl, hb⟩
    clear T1
    clear T2
    clear U
    clear V
    clear X
    replace HT := Lib.hid (HT.out.below hb)
    replace P := Lib.hid (P.out.below hb)
    replace A := Lib.hid (A.out.below hb)
    replace B := Lib.hid (B.out.below hb)
    replace C := Lib.hid (C.out.below hb)
    replace HB := Lib.hid (bnext HB.out hb)
    clear hb HC
    have hC := pContains _ _ p gA gB w22 HOK.out A.out B.out
    rw [← HY.out] at hC
    have HC := Lib.hid hC
    clear hC
    go_wp2_with fail
    refine HC.out.mono ?_
    rintro e w23 ⟨rfl, hb⟩
    replace HT := Lib.hid (HT.out.below hb)
    replace P := Lib.hid (P.out.below hb)
    replace A := Lib.hid (A.out.below hb)
    replace B := Lib.hid (B.out.below hb)
    replace C := Lib.hid (C.out.below hb)
    replace HB := Lib.hid (bnext HB.out hb)
    clear hb HC
    have hC := pVector _ p gB w23 HOK.out B.out
    have HC := Lib.hid hC
    clear hC
    go_wp2_with fail
    refine HC.out.mono ?_
    rintro e w24 ⟨vX, rfl, ho, hb⟩
    replace HT := Lib.hid (HT.out.below hb)
    replace P := Lib.hid (P.out.below hb)
    replace A := Lib.hid (A.out.below hb)
    replace B := Lib.hid (B.out.below hb)
    replace C := Lib.hid (C.out.below hb)
    replace HB := Lib.hid (bnext HB.out hb)
    have X := Lib.hid ho
    clear hb HC ho
    have hC := pVector _ p gA w24 HOK.out A.out
    have HC := Lib.hid hC
    clear hC
    go_wp2_with fail
    refine HC.out.mono ?_
    rintro e w25 ⟨vV, rfl, ho, hb⟩
    replace HT := Lib.hid (HT.out.below hb)
    replace P := Lib.hid (P.out.below hb)
    replace A := Lib.hid (A.out.below hb)
    replace B := Lib.hid (B.out.below hb)
    replace C := Lib.hid (C.out.below hb)
    replace X := Lib.hid (X.out.below hb)
    replace HB := Lib.hid (bnext HB.out hb)
    have V := Lib.hid ho
    clear hb HC ho
    have hC := VX.rLessEqual _ _ _ _ w25 (OwnE.rdV X.out) (OwnE.rdV V.out)
    rw [← SM.cons_le HOK.out gA gB, ← HY.out] at hC
    have HC := Lib.hid hC
    clear hC
    go_wp2_with fail
    refine HC.out.mono ?_
    rintro e w26 ⟨rfl, hb⟩
    clear X
    clear V
    replace HT := Lib.hid (HT.out.below hb)
    replace P := Lib.hid (P.out.below hb)
    replace A := Lib.hid (A.out.below hb)
    replace B := Lib.hid (B.out.below hb)
    replace C := Lib.hid (C.out.below hb)
    replace HB := Lib.hid (bnext HB.out hb)
    clear hb HC
    have hC := cAwake12 w26 HT.out
    have HC := Lib.hid hC
    clear hC
    go_wp2_with fail
    refine HC.out.mono ?_
    rintro e w27 ⟨rfl, hb⟩
    replace HT := Lib.hid (HT.out.below hb)
    replace P := Lib.hid (P.out.below hb)
    replace A := Lib.hid (A.out.below hb)
    replace B := Lib.hid (B.out.below hb)
    replace C := Lib.hid (C.out.below hb)
    replace HB := Lib.hid (bnext HB.out hb)
    clear hb HC
    go_wp2
    go_ret
    exact ⟨rfl, HB.out⟩
  · have hC := pContains _ _ p gC gA w16 HOK.out C.out A.out
    rw [← HX1.out] at hC
    have HC := Lib.hid hC
    clear hC
    go_wp2_with fail
    refine HC.out.mono ?_
    rintro e w17 ⟨rfl, hb⟩
    replace HT := Lib.hid (HT.out.below hb)
    replace P := Lib.hid (P.out.below hb)
    replace A := Lib.hid (A.out.below hb)
    replace B := Lib.hid (B.out.below hb)
    replace C := Lib.hid (C.out.below hb)
    replace U := Lib.hid (U.out.below hb)
    replace HB := Lib.hid (bnext HB.out hb)
    clear hb HC
    cases X2
    · have hC := pContains _ _ p gC gB w17 HOK.out C.out B.out
      rw [← HX2.out] at hC
      have HC := Lib.hid hC
      clear hC
      go_wp2_with fail
      refine HC.out.mono ?_
      rintro e w18 ⟨rfl, hb⟩
      replace HT := Lib.hid (HT.out.below hb)
      replace P := Lib.hid (P.out.below hb)
      replace A := Lib.hid (A.out.below hb)
      replace B := Lib.hid (B.out.below hb)
      replace C := Lib.hid (C.out.below hb)
      replace U := Lib.hid (U.out.below hb)
      replace HB := Lib.hid (bnext HB.out hb)
      clear hb HC
      have hla := SM.vo_len (SM.rs p gA)
      have hlb := SM.vo_len (SM.rs p gB)
      have hra := SM.rs_len p gA
      have hrb := SM.rs_len p gB
      have HVB := Lib.hid (SM.vo_spec (HOK.out.rs gB)).1
      have hC := pVector _ p _ w18 HOK.out U.out
      have HC := Lib.hid hC
      clear hC
      go_wp2_with fail
      refine HC.out.mono ?_
      rintro e w19 ⟨vT1, rfl, ho, hb⟩
      replace HT := Lib.hid (HT.out.below hb)
      replace P := Lib.hid (P.out.below hb)
      replace A := Lib.hid (A.out.below hb)
      replace B := Lib.hid (B.out.below hb)
      replace C := Lib.hid (C.out.below hb)
      replace U := Lib.hid (U.out.below hb)
      replace HB := Lib.hid (bnext HB.out hb)
      have T1 := Lib.hid ho
      clear hb HC ho
      have hC := pVector _ p gA w19 HOK.out A.out
      have HC := Lib.hid hC
      clear hC
      go_wp2_with fail
      refine HC.out.mono ?_
      rintro e w20 ⟨vV, rfl, ho, hb⟩
      replace HT := Lib.hid (HT.out.below hb)
      replace P := Lib.hid (P.out.below hb)
      replace A := Lib.hid (A.out.below hb)
      replace B := Lib.hid (B.out.below hb)
      replace C := Lib.hid (C.out.below hb)
      replace U := Lib.hid (U.out.below hb)
      replace T1 := Lib.hid (T1.out.below hb)
      replace HB := Lib.hid (bnext HB.out hb)
      have V := Lib.hid ho
      clear hb HC ho
      have hC := pVector _ p gB w20 HOK.out B.out
      have HC := Lib.hid hC
      clear hC
      go_wp2_with fail
      refine HC.out.mono ?_
      rintro e w21 ⟨vX, rfl, ho, hb⟩
      replace HT := Lib.hid (HT.out.below hb)
      replace P := Lib.hid (P.out.below hb)
      replace A := Lib.hid (A.out.below hb)
      replace B := Lib.hid (B.out.below hb)
      replace C := Lib.hid (C.out.below hb)
      replace U := Lib.hid (U.out.below hb)
      replace T1 := Lib.hid (T1.out.below hb)
      replace V := Lib.hid (V.out.below hb)
      replace HB := Lib.hid (bnext HB.out hb)
      have X := Lib.hid ho
      clear hb HC ho
      have hC := VX.rJoin _ _ (SM.vo (SM.rs p gA)) (SM.vo (SM.rs p gB)) w21 (OwnE.rdV V.out) (OwnE.rdV X.out) HVB.out (by omega) (by omega)
      have HC := Lib.hid hC
      clear hC
      go_wp2_with fail
      refine HC.out.mono ?_
      rintro e w22 ⟨vT2, rfl, ho, hb⟩
      replace HT := Lib.hid (HT.out.below hb)
      replace P := Lib.hid (P.out.below hb)
      replace A := Lib.hid (A.out.below hb)
      replace B := Lib.hid (B.out.below hb)
      replace C := Lib.hid (C.out.below hb)
      replace U := Lib.hid (U.out.below hb)
      replace T1 := Lib.hid (T1.out.below hb)
      replace V := Lib.hid (V.out.below hb)
      replace X := Lib.hid (X.out.below hb)
      replace HB := Lib.hid (bnext HB.out hb)
      have T2 := Lib.hid (vx_ownE ho)
      clear hb HC ho
      have hC := VX.rEqual _ _ _ _ w22 (OwnE.rdV T1.out) (OwnE.rdV T2.out)
      rw [SM.vo_mx HOK.out, decide_eq_true rfl] at hC
      have HC := Lib.hid hC
      clear hC
      go_wp2_with fail
      refine HC.out.mono ?_
      rintro e w23 ⟨rfl, hb⟩
      clear T1
      clear T2
      clear U
      clear V
      clear X
      replace HT := Lib.hid (HT.out.below hb)
      replace P := Lib.hid (P.out.below hb)
      replace A := Lib.hid (A.out.below hb)
      replace B := Lib.hid (B.out.below hb)
      replace C := Lib.hid (C.out.below hb)
      replace HB := Lib.hid (bnext HB.out hb)
      clear hb HC
      have hC := pContains _ _ p gA gB w23 HOK.out A.out B.out
      rw [← HY.out] at hC
      have HC := Lib.hid hC
      clear hC
      go_wp2_with fail
      refine HC.out.mono ?_
      rintro e w24 ⟨rfl, hb⟩
      replace HT := Lib.hid (HT.out.below hb)
      replace P := Lib.hid (P.out.below hb)
      replace A := Lib.hid (A.out.below hb)
      replace B := Lib.hid (B.out.below hb)
      replace C := Lib.hid (C.out.below hb)
      replace HB := Lib.hid (bnext HB.out hb)
      clear hb HC
      have hC := pVector _ p gB w24 HOK.out B.out
      have HC := Lib.hid hC
      clear hC
      go_wp2_with fail
      refine HC.out.mono ?_
      rintro e w25 ⟨vX, rfl, ho, hb⟩
      replace HT := Lib.hid (HT.out.below hb)
      replace P := Lib.hid (P.out.below hb)
      replace A := Lib.hid (A.out.below hb)
      replace B := Lib.hid (B.out.below hb)
      replace C := Lib.hid (C.out.below hb)
      replace HB := Lib.hid (bnext HB.out hb)
      have X := Lib.hid ho
      clear hb HC ho
      have hC := pVector _ p gA w25 HOK.out A.out
      have HC := Lib.hid hC
      clear hC
      go_wp2_with fail
      refine HC.out.mono ?_
      rintro e w26 ⟨vV, rfl, ho, hb⟩
      replace HT := Lib.hid (HT.out.below hb)
      replace P := Lib.hid (P.out.below hb)
      replace A := Lib.hid (A.out.below hb)
      replace B := Lib.hid (B.out.below hb)
      replace C := Lib.hid (C.out.below hb)
      replace X := Lib.hid (X.out.below hb)
      replace HB := Lib.hid (bnext HB.out hb)
      have V := Lib.hid ho
      clear hb HC ho
      have hC := VX.rLessEqual _ _ _ _ w26 (OwnE.rdV X.out) (OwnE.rdV V.out)
      rw [← SM.cons_le HOK.out gA gB, ← HY.out] at hC
      have HC := Lib.hid hC
      clear hC
      go_wp2_with fail
      refine HC.out.mono ?_
      rintro e w27 ⟨rfl, hb⟩
      clear X
      clear V
      replace HT := Lib.hid (HT.out.below hb)
      replace P := Lib.hid (P.out.below hb)
      replace A := Lib.hid (A.out.below hb)
      replace B := Lib.hid (B.out.below hb)
      replace C := Lib.hid (C.out.below hb)
      replace HB := Lib.hid (bnext HB.out hb)
      clear hb HC
      have hC := cAwake12 w27 HT.out
      have HC := Lib.hid hC
      clear hC
      go_wp2_with fail
      refine HC.out.mono ?_
      rintro e w28 ⟨rfl, hb⟩
      replace HT := Lib.hid (HT.out.below hb)
      replace P := Lib.hid (P.out.below hb)
      replace A := Lib.hid (A.out.below hb)
      replace B := Lib.hid (B.out.below hb)
      replace C := Lib.hid (C.out.below hb)
      replace HB := Lib.hid (bnext HB.out hb)
      clear hb HC
      go_wp2
      go_ret
      exact ⟨rfl, HB.out⟩
    · have hC := pContains _ _ p gC gB w17 HOK.out C.out B.out
      rw [← HX2.out] at hC
      have HC := Lib.hid hC
      clear hC
      go_wp2_with fail
      refine HC.out.mono ?_
      rintro e w18 ⟨rfl, hb⟩
      replace HT := Lib.hid (HT.out.below hb)
      replace P := Lib.hid (P.out.below hb)
      replace A := Lib.hid (A.out.below hb)
      replace B := Lib.hid (B.out.below hb)
      replace C := Lib.hid (C.out.below hb)
      replace U := Lib.hid (U.out.below hb)
      replace HB := Lib.hid (bnext HB.out hb)
      clear hb HC
      have hC := pContains _ _ p gC _ w18 HOK.out C.out U.out
      rw [HBO.out (by simp) (by simp)] at hC
      have HC := Lib.hid hC
      clear hC
      go_wp2_with fail
      refine HC.out.mono ?_
      rintro e w19 ⟨rfl, hb⟩
      replace HT := Lib.hid (HT.out.below hb)
      replace P := Lib.hid (P.out.below hb)
      replace A := Lib.hid (A.out.below hb)
      replace B := Lib.hid (B.out.below hb)
      replace C := Lib.hid (C.out.below hb)
      replace U := Lib.hid (U.out.below hb)
      replace HB := Lib.hid (bnext HB.out hb)
      clear hb HC
      have hla := SM.vo_len (SM.rs p gA)
      have hlb := SM.vo_len (SM.rs p gB)
      have hra := SM.rs_len p gA
      have hrb := SM.rs_len p gB
      have HVB := Lib.hid (SM.vo_spec (HOK.out.rs gB)).1
      have hC := pVector _ p _ w19 HOK.out U.out
      have HC := Lib.hid hC
      clear hC
      go_wp2_with fail
      refine HC.out.mono ?_
      rintro e w20 ⟨vT1, rfl, ho, hb⟩
      replace HT := Lib.hid (HT.out.below hb)
      replace P := Lib.hid (P.out.below hb)
      replace A := Lib.hid (A.out.below hb)
      replace B := Lib.hid (B.out.below hb)
      replace C := Lib.hid (C.out.below hb)
      replace U := Lib.hid (U.out.below hb)
      replace HB := Lib.hid (bnext HB.out hb)
      have T1 := Lib.hid ho
      clear hb HC ho
      have hC := pVector _ p gA w20 HOK.out A.out
      have HC := Lib.hid hC
      clear hC
      go_wp2_with fail
      refine HC.out.mono ?_
      rintro e w21 ⟨vV, rfl, ho, hb⟩
      replace HT := Lib.hid (HT.out.below hb)
      replace P := Lib.hid (P.out.below hb)
      replace A := Lib.hid (A.out.below hb)
      replace B := Lib.hid (B.out.below hb)
      replace C := Lib.hid (C.out.below hb)
      replace U := Lib.hid (U.out.below hb)
      replace T1 := Lib.hid (T1.out.below hb)
      replace HB := Lib.hid (bnext HB.out hb)
      have V := Lib.hid ho
      clear hb HC ho
      have hC := pVector _ p gB w21 HOK.out B.out
      have HC := Lib.hid hC
      clear hC
      go_wp2_with fail
      refine HC.out.mono ?_
      rintro e w22 ⟨vX, rfl, ho, hb⟩
      replace HT := Lib.hid (HT.out.below hb)
      replace P := Lib.hid (P.out.below hb)
      replace A := Lib.hid (A.out.below hb)
      replace B := Lib.hid (B.out.below hb)
      replace C := Lib.hid (C.out.below hb)
      replace U := Lib.hid (U.out.below hb)
      replace T1 := Lib.hid (T1.out.below hb)
      replace V := Lib.hid (V.out.below hb)
      replace HB := Lib.hid (bnext HB.out hb)
      have X := Lib.hid ho
      clear hb HC ho
      have hC := VX.rJoin _ _ (SM.vo (SM.rs p gA)) (SM.vo (SM.rs p gB)) w22 (OwnE.rdV V.out) (OwnE.rdV X.out) HVB.out (by omega) (by omega)
      have HC := Lib.hid hC
      clear hC
      go_wp2_with fail
      refine HC.out.mono ?_
      rintro e w23 ⟨vT2, rfl, ho, hb⟩
      replace HT := Lib.hid (HT.out.below hb)
      replace P := Lib.hid (P.out.below hb)
      replace A := Lib.hid (A.out.below hb)
      replace B := Lib.hid (B.out.below hb)
      replace C := Lib.hid (C.out.below hb)
      replace U := Lib.hid (U.out.below hb)
      replace T1 := Lib.hid (T1.out.below hb)
      replace V := Lib.hid (V.out.below hb)
      replace X := Lib.hid (X.out.below hb)
      replace HB := Lib.hid (bnext HB.out hb)
      have T2 := Lib.hid (vx_ownE ho)
      clear hb HC ho
      have hC := VX.rEqual _ _ _ _ w23 (OwnE.rdV T1.out) (OwnE.rdV T2.out)
      rw [SM.vo_mx HOK.out, decide_eq_true rfl] at hC
      have HC := Lib.hid hC
      clear hC
      go_wp2_with fail
      refine HC.out.mono ?_
      rintro e w24 ⟨rfl, hb⟩
      clear T1
      clear T2
      clear U
      clear V
      clear X
      replace HT := Lib.hid (HT.out.below hb)
      replace P := Lib.hid (P.out.below hb)
      replace A := Lib.hid (A.out.below hb)
      replace B := Lib.hid (B.out.below hb)
      replace C := Lib.hid (C.out.below hb)
      replace HB := Lib.hid (bnext HB.out hb)
      clear hb HC
      have hC := pContains _ _ p gA gB w24 HOK.out A.out B.out
      rw [← HY.out] at hC
      have HC := Lib.hid hC
      clear hC
      go_wp2_with fail
      refine HC.out.mono ?_
      rintro e w25 ⟨rfl, hb⟩
      replace HT := Lib.hid (HT.out.below hb)
      replace P := Lib.hid (P.out.below hb)
      replace A := Lib.hid (A.out.below hb)
      replace B := Lib.hid (B.out.below hb)
      replace C := Lib.hid (C.out.below hb)
      replace HB := Lib.hid (bnext HB.out hb)
      clear hb HC
      have hC := pVector _ p gB w25 HOK.out B.out
      have HC := Lib.hid hC
      clear hC
      go_wp2_with fail
      refine HC.out.mono ?_
      rintro e w26 ⟨vX, rfl, ho, hb⟩
      replace HT := Lib.hid (HT.out.below hb)
      replace P := Lib.hid (P.out.below hb)
      replace A := Lib.hid (A.out.below hb)
      replace B := Lib.hid (B.out.below hb)
      replace C := Lib.hid (C.out.below hb)
      replace HB := Lib.hid (bnext HB.out hb)
      have X := Lib.hid ho
      clear hb HC ho
      have hC := pVector _ p gA w26 HOK.out A.out
      have HC := Lib.hid hC
      clear hC
      go_wp2_with fail
      refine HC.out.mono ?_
      rintro e w27 ⟨vV, rfl, ho, hb⟩
      replace HT := Lib.hid (HT.out.below hb)
      replace P := Lib.hid (P.out.below hb)
      replace A := Lib.hid (A.out.below hb)
      replace B := Lib.hid (B.out.below hb)
      replace C := Lib.hid (C.out.below hb)
      replace X := Lib.hid (X.out.below hb)
      replace HB := Lib.hid (bnext HB.out hb)
      have V := Lib.hid ho
      clear hb HC ho
      have hC := VX.rLessEqual _ _ _ _ w27 (OwnE.rdV X.out) (OwnE.rdV V.out)
      rw [← SM.cons_le HOK.out gA gB, ← HY.out] at hC
      have HC := Lib.hid hC
      clear hC
      go_wp2_with fail
      refine HC.out.mono ?_
      rintro e w28 ⟨rfl, hb⟩
      clear X
      clear V
      replace HT := Lib.hid (HT.out.below hb)
      replace P := Lib.hid (P.out.below hb)
      replace A := Lib.hid (A.out.below hb)
      replace B := Lib.hid (B.out.below hb)
      replace C := Lib.hid (C.out.below hb)
      replace HB := Lib.hid (bnext HB.out hb)
      clear hb HC
      have hC := cAwake12 w28 HT.out
      have HC := Lib.hid hC
      clear hC
      go_wp2_with fail
      refine HC.out.mono ?_
      rintro e w29 ⟨rfl, hb⟩
      replace HT := Lib.hid (HT.out.below hb)
      replace P := Lib.hid (P.out.below hb)
      replace A := Lib.hid (A.out.below hb)
      replace B := Lib.hid (B.out.below hb)
      replace C := Lib.hid (C.out.below hb)
      replace HB := Lib.hid (bnext HB.out hb)
      clear hb HC
      go_wp2
      go_ret
      exact ⟨rfl, HB.out⟩

end Go.Proofs.YtdfablboenfblaaDoor.ST

namespace Go.Proofs.YtdfablboenfblaaDoor.ST
open Go.RowKit Go.Joins
open UM (Ef)
open SM (Fp)
open VM (Ent)

set_option maxRecDepth 100000 in
set_option maxHeartbeats 8000000 in
theorem lStateTransfer (v : Value) (l : List Int) (x y n : Int) (w : World) (hT : Tb w) (h : RdI w v l) (hl : l.length ≤ 4611686018427387904) :
    Calls Tryd.prog 9 #[v, .int .i64 x, .int .i64 y, .int .i64 n] w fun e w' => e = .returned (.bool true) ∧ Below w.heap.size w w' := by
  have HP := Lib.hid (kUpdatesV v l w h hl)
  have HT := Lib.hid hT
  obtain ⟨ad, cp, rfl, _, _⟩ := h.shape
  clear h hl hT
  have HB := Lib.hid (Below.refl w.heap.size w)
  go_enter Tryd.func9, Tryd.ntmps9
  go_wp2_with fail
  refine HP.out.mono ?_
  rintro e w1 ⟨vp, p, rfl, hr, hok, _, hb⟩
  replace HT := Lib.hid (HT.out.below hb)
  replace HB := Lib.hid (bnext HB.out hb)
  have P := Lib.hid hr
  have HOK := Lib.hid hok
  have hp9 := hok.all48
  clear hr hok hb HP
  have hC := kSomeR _ p x w1 P.out HOK.out
  have HC := Lib.hid hC
  clear hC
  go_wp2_with fail
  refine HC.out.mono ?_
  rintro e w2 ⟨vA, gA, rfl, hr, hb⟩
  replace HT := Lib.hid (HT.out.below hb)
  replace P := Lib.hid (P.out.below hb)
  replace HB := Lib.hid (bnext HB.out hb)
  have A := Lib.hid hr
  clear hb HC hr
  have hC := kSomeR _ p y w2 P.out HOK.out
  have HC := Lib.hid hC
  clear hC
  go_wp2_with fail
  refine HC.out.mono ?_
  rintro e w3 ⟨vB, gB, rfl, hr, hb⟩
  replace HT := Lib.hid (HT.out.below hb)
  replace P := Lib.hid (P.out.below hb)
  replace A := Lib.hid (A.out.below hb)
  replace HB := Lib.hid (bnext HB.out hb)
  have B := Lib.hid hr
  clear hb HC hr
  clear P
  have hI := kIndex n 6 w3 (by decide) (by decide)
  have hix := ix_range (n := n) (show (1 : Int) ≤ 6 by decide)
  generalize ix n 6 = X at hI hix
  obtain ⟨hx0, hx6⟩ := hix
  obtain ⟨N, hN⟩ : ∃ N : Nat, (N : Int) = 1 + X := ⟨(1 + X).toNat, by omega⟩
  have hN1 : 1 ≤ N := by omega
  have hN6 : N ≤ 6 := by omega
  have HI := Lib.hid hI
  have HNX := Lib.hid hN
  have HLA := Lib.hid (HOK.out.rs gA).all48
  have HLB := Lib.hid (HOK.out.rs gB).all48
  obtain ⟨a1, a2, rfl, _, _⟩ := A.out.shape
  have HOA := Lib.hid (HOK.out.rs gA)
  obtain ⟨M, hM⟩ : ∃ M, M = (SM.rs p gA).length := ⟨_, rfl⟩
  rw [← hM] at A HLA ⊢
  have HM := Lib.hid hM
  obtain ⟨L0, hL0⟩ : ∃ L0, L0 = SM.beyAll (SM.rs p gA) (SM.ct (SM.rs p gB)) := ⟨_, rfl⟩
  have HL0 := Lib.hid hL0
  have HLM := Lib.hid (show L0.length + 0 ≤ M by rw [hL0, hM]; exact List.length_filter_le _ _)
  clear hN hI hM hL0
  go_wp2_with fail
  refine HI.out.mono ?_
  rintro e w' ⟨rfl, rfl⟩
  go_upto_region 4 with fail
  rw [← HNX.out]
  go_wp2
  go_loopg [13, 14] L0.length (fun G got i wr => ∃ (j : Nat) (g : Int → Int), (SM.beyAll (SM.rs p gA) (SM.ct (SM.rs p g))).length = G ∧ i = .int .i64 j ∧ Hid (G + j ≤ M) ∧ Hid (RdF wr got (SM.rs p g)) ∧ Hid (∀ x, (x ∈ SM.rs p g ∨ x ∈ SM.beyAll (SM.rs p gA) (SM.ct (SM.rs p g))) ↔ (x ∈ SM.rs p gA ∨ x ∈ SM.rs p gB)) ∧ Hid (RdF wr (.slice a1 M a2) (SM.rs p gA)) ∧ Hid (RdF wr vB (SM.rs p gB)) ∧ Hid (Tb wr) ∧ Hid (Below w.heap.size w wr))
  case atStart => exact ⟨0, gB, by rw [HL0.out], rfl, HLM.out, B.out, SM.first_got HOK.out gA gB, A.out, B.out, HT.out, HB.out⟩
  case round =>
    obtain ⟨j, g, hG, rfl, hj, hgot, hmem, hA, hBB, hTT, hbl⟩ := hrel
    clear HLM HL0 A B HT HB
    have hq : (j : Int) ≤ (M : Int) := by have := hj.out; omega
    have hM48 : M ≤ 48 := HLA.out
    have HV := Lib.hid (pVector _ p g wr HOK.out hgot.out)
    have hct : VM.cnt (SM.vo (SM.rs p g)) = SM.ct (SM.rs p g) := funext (SM.vo_spec (HOK.out.rs g)).2
    have HG := Lib.hid (fun w' vv (hh : RdF w' (.slice a1 M a2) (SM.rs p gA)) (hv : VX.RdV w' vv (SM.vo (SM.rs p g))) => gBeyond _ _ (SM.rs p gA) (SM.vo (SM.rs p g)) (N : Int) w' hh hv (SM.vo_spec (HOK.out.rs g)).1 (by have := SM.vo_len (SM.rs p g); have := (HOK.out.rs g).all48; omega) (by have := HLA.out; have := HM.out; omega) (all_len HOA.out.all))
    rw [hct] at HG
    obtain ⟨L, hL⟩ : ∃ L, L = SM.beyAll (SM.rs p gA) (SM.ct (SM.rs p g)) := ⟨_, rfl⟩
    rw [show SM.bey (SM.rs p gA) (SM.ct (SM.rs p g)) (N : Int) = (L.take N, decide (N < L.length)) by rw [hL]; rfl] at HG
    obtain ⟨g2, m1, m2, m3⟩ := SM.mrg_chunk HOK.out gA N g 0 0
    have HLN := Lib.hid (SM.next_got hmem.out m2 m3)
    rw [← hL] at hG m1 m2
    have HCL := Lib.hid (show (L.take N).length = min N L.length from List.length_take)
    obtain ⟨C, hC⟩ : ∃ C, C = L.take N := ⟨_, rfl⟩
    rw [← hC] at HG m1 HCL
    have HCM := Lib.hid (show ∀ f ∈ C, SM.errF f = 0 from fun f hf => by
      rw [hC] at hf
      have := List.mem_of_mem_take hf
      rw [hL] at this
      exact HOA.out.all f (SM.beyAll_mem.1 this).1)
    have hC6 : C.length ≤ 6 := by have := HCL.out; omega
    have HMG := Lib.hid (fun w' vg vc (ht : Tb w') (hh : RdF w' vg (SM.rs p g)) (hv : RdF w' vc C) => by
      have := gMerge vg vc (SM.rs p g) C w' ht hh hv (HOK.out.rs g) (by omega) (fitN_ok HCM.out)
      rw [show SM.mrg (SM.rs p g) C = (SM.rs p g2, 0 + (C.length : Int), 0) from m1] at this
      exact this)
    have HM2 := Lib.hid m2
    have HLG := Lib.hid hG
    have HGT := Lib.hid hgot.out
    have HAA := Lib.hid hA.out
    have HB1 := Lib.hid hBB.out
    have HT1 := Lib.hid hTT.out
    have HB2 := Lib.hid hbl.out
    clear hct hL m1 m2 m3 hC hG hgot hA hBB hTT hbl hmem
    go_wp2_with fail
    refine HV.out.mono ?_
    rintro e w5 ⟨v5, rfl, ho, hb⟩
    have HG1 := Lib.hid (HG.out w5 v5 (HAA.out.below hb) (OwnE.rdV ho))
    replace HGT := Lib.hid (HGT.out.below hb)
    replace HAA := Lib.hid (HAA.out.below hb)
    replace HB1 := Lib.hid (HB1.out.below hb)
    replace HT1 := Lib.hid (HT1.out.below hb)
    replace HB2 := Lib.hid (bnext HB2.out hb)
    clear ho hb HV HG
    by_cases hmore : N < L.length
    · rw [decide_eq_true hmore] at HG1
      have hCN : C.length = N := by have := HCL.out; omega
      have HCN := Lib.hid hCN
      have hlt : L.length - N < gk := by have := HLG.out; omega
      have hj2 := Lib.hid (show L.length - N + (j + 1) ≤ M by have := HLG.out; have := hj.out; omega)
      clear hmore hCN
      go_wp2_with fail
      refine HG1.out.mono ?_
      rintro e w6 ⟨v6, rfl, hr, hb⟩
      obtain ⟨c1, c2, rfl, _, _⟩ := hr.shape
      have HMC := Lib.hid (HMG.out w6 _ _ (HT1.out.below hb) (HGT.out.below hb) hr)
      replace HAA := Lib.hid (HAA.out.below hb)
      replace HB1 := Lib.hid (HB1.out.below hb)
      replace HT1 := Lib.hid (HT1.out.below hb)
      replace HB2 := Lib.hid (bnext HB2.out hb)
      clear hr hb HG1 HGT HMG
      go_wp2_with fail
      refine HMC.out.mono ?_
      rintro e w7 ⟨v7, rfl, hr, hb⟩
      replace HAA := Lib.hid (HAA.out.below hb)
      replace HB1 := Lib.hid (HB1.out.below hb)
      replace HT1 := Lib.hid (HT1.out.below hb)
      replace HB2 := Lib.hid (bnext HB2.out hb)
      have HR7 := Lib.hid hr
      have hcn : ((C.length : Int) != (N : Int)) = false := bne_f (by have := HCN.out; omega)
      clear hr hb HMC
      go_wp2
      go_roundg (L.length - N)
      case measure => exact hlt
      case rel => exact ⟨j + 1, g2, by rw [HM2.out, List.length_drop], by go_num, hj2, HR7, HLN, HAA, HB1, HT1, HB2⟩
    · rw [decide_eq_false hmore] at HG1
      have HEND := Lib.hid (SM.all_got HOK.out HLN.out (by rw [HM2.out]; exact List.drop_of_length_le (by omega)))
      clear hmore
      go_wp2_with fail
      refine HG1.out.mono ?_
      rintro e w6 ⟨v6, rfl, hr, hb⟩
      obtain ⟨c1, c2, rfl, _, _⟩ := hr.shape
      have HMC := Lib.hid (HMG.out w6 _ _ (HT1.out.below hb) (HGT.out.below hb) hr)
      replace HAA := Lib.hid (HAA.out.below hb)
      replace HB1 := Lib.hid (HB1.out.below hb)
      replace HT1 := Lib.hid (HT1.out.below hb)
      replace HB2 := Lib.hid (bnext HB2.out hb)
      clear hr hb HG1 HGT HMG
      go_wp2_with fail
      refine HMC.out.mono ?_
      rintro e w7 ⟨v7, rfl, hr, hb⟩
      replace HAA := Lib.hid (HAA.out.below hb)
      replace HB1 := Lib.hid (HB1.out.below hb)
      replace HT1 := Lib.hid (HT1.out.below hb)
      replace HB2 := Lib.hid (bnext HB2.out hb)
      have HR7 := Lib.hid hr
      have HUN := Lib.hid (rUnion _ _ (SM.rs p gA) (SM.rs p gB) w7 HAA.out HB1.out (by have := HLA.out; have := HM.out; omega) (by have := HLB.out; omega))
      clear hr hb HMC
      go_wp2_with fail
      refine HUN.out.mono ?_
      rintro e w8 ⟨v8, rfl, hr, hb⟩
      replace HT1 := Lib.hid (HT1.out.below hb)
      replace HB2 := Lib.hid (bnext HB2.out hb)
      have HEQ := Lib.hid (pEqual _ _ _ _ w8 (HR7.out.below hb) hr HEND.out)
      clear hr hb HUN HAA HB1 HR7
      go_wp2_with fail
      refine HEQ.out.mono ?_
      rintro e w9 ⟨rfl, hb⟩
      replace HT1 := Lib.hid (HT1.out.below hb)
      replace HB2 := Lib.hid (bnext HB2.out hb)
      clear hb HEQ
      go_wp2_with fail
      refine (cAwake12 w9 HT1.out).mono ?_
      rintro e w10 ⟨rfl, hb⟩
      go_wp2
      go_ret
      exact ⟨rfl, bnext HB2.out hb⟩

end Go.Proofs.YtdfablboenfblaaDoor.ST
