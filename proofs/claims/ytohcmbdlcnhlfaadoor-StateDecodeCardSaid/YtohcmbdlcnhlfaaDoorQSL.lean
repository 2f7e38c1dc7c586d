/-
  The contracts of state's functions at valid states; the call of the laws' awake: it returns true. Conditions: the tables of unicode/utf8 are laid.
  The calls of the laws StateValidate, StateDecode: each returns true. Conditions: what comes in reads; the tables of unicode/utf8 are laid. (Written by mk_slaws.py.)
  The calls of the laws StateBeyond, StateMerge: each returns true. Conditions: what comes in reads; the tables of unicode/utf8 are laid. (Written by mk_slaws.py.)
-/
import Derived.Deep.RegionHeld3
import Derived.Test.YtohcmbdlcnhlfaaDoorQYE
import Derived.Test.YtohcmbdlcnhlfaaDoorQYF
import Derived.Test.YtohcmbdlcnhlfaaDoorQSOpn
import Derived.Test.YtohcmbdlcnhlfaaDoorQSR3
namespace Go.Proofs.YtohcmbdlcnhlfaaDoor.ST
open Go.RowKit
open UM (Ef)
open SM (Fp)
open VM (Ent)

theorem oUnion (va vb : Value) (xs ys : List Fp) (w : World) (ha : RdF w va xs) (hb : RdF w vb ys) (hx : SM.Ok xs) (hy : SM.Ok ys) :
    Calls Tryd.prog 24 #[va, vb] w fun e w' => ∃ v', e = .returned v' ∧ RdF w' v' (SM.un xs ys) ∧ Below w.heap.size w w' :=
  gUnion va vb xs ys w ha hb (by have := hx.all48; omega) (by have := hy.all48; omega) (all_len hx.all) (all_len hy.all)
theorem oContains (va vb : Value) (xs ys : List Fp) (w : World) (ha : RdF w va xs) (hb : RdF w vb ys) (hx : SM.Ok xs) :
    Calls Tryd.prog 20 #[va, vb] w fun e w' => e = .returned (.bool (SM.cons xs ys)) ∧ Below w.heap.size w w' :=
  gContains va vb xs ys w ha hb hx.srt (by have := hx.all48; omega)
theorem oVector (v : Value) (xs : List Fp) (w : World) (h : RdF w v xs) (hx : SM.Ok xs) :
    Calls Tryd.prog 18 #[v] w fun e w' => ∃ v', e = .returned v' ∧ OwnE w.heap.size w' v' (SM.vo xs) ∧ Below w.heap.size w w' :=
  gVector v xs w h (by have := hx.all48; omega)

def La : List Ef := [(5, ⟨#[97]⟩, ⟨#[98]⟩, 0, ⟨#[]⟩)]
def Fa : Fp := (101, 1, 0, La)
def Fb : Fp := (102, 1, 0, La)
def Fc : Fp := (101, 3, 0, La)
theorem la_fit : ∀ e ∈ La, EfFit e := by
  intro e he
  rw [La, List.mem_singleton] at he
  subst he
  refine ⟨⟨by decide, by decide⟩, ?_, ?_, ?_⟩
  · show 1 ≤ maxLen; unfold maxLen; omega
  · show 1 ≤ maxLen; unfold maxLen; omega
  · exact Nat.zero_le _
theorem ab_fit : FitE [Fa, Fb] := fun f hf => by
  rcases List.mem_cons.1 hf with rfl | h
  · exact la_fit
  · rw [List.mem_singleton] at h; subst h; exact la_fit
theorem l_fit : FitE [Fb, Fb, Fc] := fun f hf => by
  rcases List.mem_cons.1 hf with rfl | h
  · exact la_fit
  · rcases List.mem_cons.1 h with rfl | h
    · exact la_fit
    · rw [List.mem_singleton] at h; subst h; exact la_fit
theorem fa_err : SM.errF Fa = 0 := by decide +kernel
theorem fb_err : SM.errF Fb = 0 := by decide +kernel
theorem fc_err : SM.errF Fc = 0 := by decide +kernel
theorem ok_ab : SM.Ok [Fa, Fb] := by show SM.errL (0, 0) [Fa, Fb] = 0; decide +kernel
theorem ok_a : SM.Ok [Fa] := by show SM.errL (0, 0) [Fa] = 0; decide +kernel
theorem ok_b : SM.Ok [Fb] := by show SM.errL (0, 0) [Fb] = 0; decide +kernel
theorem un_ab : SM.un [Fa] [Fb] = [Fa, Fb] := by rw [SM.un_cons, if_pos (by decide), SM.nil_un]
theorem add_ab : SM.addU [Fa, Fb] Fa = (5, []) := by unfold SM.addU; rw [if_neg (by rw [fa_err]; decide), if_pos (by decide)]
theorem cons_1 : SM.cons [Fa, Fb] [Fb] = true := SM.cons_iff.2 fun _ hf => List.mem_cons_of_mem _ hf
theorem cons_2 : SM.cons [Fa] [Fa, Fb] = false := by
  cases h : SM.cons [Fa] [Fa, Fb] with
  | false => rfl
  | true =>
    have := SM.cons_iff.1 h Fb (List.mem_cons_of_mem _ (List.mem_singleton.2 rfl))
    rw [List.mem_singleton] at this
    exact absurd (congrArg Prod.fst this) (by decide)
theorem bey_1 : SM.bey [Fa, Fb] (VM.cnt (SM.vo [Fa])) 5 = ([Fb], false) := rfl
theorem mrg_1 : SM.mrg [Fa] [Fb, Fb, Fc] = ([Fa, Fb], 1, 1) := by
  unfold SM.mrg
  rw [List.foldl_cons, List.foldl_cons, List.foldl_cons, List.foldl_nil]
  have h1 : SM.mrg1 ([Fa], 0, 0) Fb = ([Fa, Fb], 1, 0) := by
    unfold SM.mrg1; dsimp only
    rw [if_neg (by rw [fb_err]; decide), if_neg (by decide), un_ab]; rfl
  have h2 : SM.mrg1 ([Fa, Fb], 1, 0) Fb = ([Fa, Fb], 1, 0) := by
    unfold SM.mrg1; dsimp only
    rw [if_neg (by rw [fb_err]; decide), if_pos (by decide)]
  have h3 : SM.mrg1 ([Fa, Fb], 1, 0) Fc = ([Fa, Fb], 1, 1) := by
    unfold SM.mrg1; dsimp only
    rw [if_pos (by rw [fc_err]; decide)]; rfl
  rw [h1, h2, h3]
theorem dec_ab : SM.decL (SM.encL [Fa, Fb]) = (0, (SM.encL [Fa, Fb]).length, [Fa, Fb]) := by
  have := SM.decL_enc ok_ab ab_fit.i []
  rw [List.append_nil] at this
  exact this
theorem enc_pos (fs : List Fp) : 0 < (SM.encL fs).length := by
  unfold SM.encL
  rw [List.length_append]
  have := WM.enc_pos fs.length
  omega

set_option maxRecDepth 100000 in
set_option maxHeartbeats 8000000 in
theorem cAwake12 (w : World) (hT : Tb w) : Calls Tryd.prog 13 #[] w fun e w' => e = .returned (.bool true) ∧ Below w.heap.size w w' := by
  have hb0 := below_fresh w (.cells #[.int .i64 5, .string ⟨#[97]⟩, .string ⟨#[98]⟩, .int .i64 0, .string ⟨#[]⟩] 62)
  have hl0 : RdEf (w.alloc (.cells #[.int .i64 5, .string ⟨#[97]⟩, .string ⟨#[98]⟩, .int .i64 0, .string ⟨#[]⟩] 62)) (.slice (some ⟨w.heap.size, 0, none⟩) 1 1) La := (ownG_fresh hlEf 62 w La (by simp [maxLen, La])).rd
  have hs0 := World.size_alloc w (.cells #[.int .i64 5, .string ⟨#[97]⟩, .string ⟨#[98]⟩, .int .i64 0, .string ⟨#[]⟩] 62)
  obtain ⟨w0, hw0⟩ : ∃ w0, w.alloc (.cells #[.int .i64 5, .string ⟨#[97]⟩, .string ⟨#[98]⟩, .int .i64 0, .string ⟨#[]⟩] 62) = w0 := ⟨_, rfl⟩
  rw [hw0] at hb0 hl0 hs0
  have hb1 := below_fresh w0 (.cells #[.int .i64 101, .int .i64 1, .int .i64 0, .slice (some ⟨w.heap.size, 0, none⟩) 1 1] 43)
  have ha1 : RdUp (w0.alloc (.cells #[.int .i64 101, .int .i64 1, .int .i64 0, .slice (some ⟨w.heap.size, 0, none⟩) 1 1] 43)) (.slice (some ⟨w0.heap.size, 0, none⟩) 1 1) [(101, 1, 0, some ⟨w.heap.size, 0, none⟩, 1, 1)] := (ownG_fresh hlUp 43 w0 [(101, 1, 0, some ⟨w.heap.size, 0, none⟩, 1, 1)] (by simp [maxLen])).rd
  have hp1 := OU.fresh w0 101 1 0 (.slice (some ⟨w.heap.size, 0, none⟩) 1 1)
  have hs1 := World.size_alloc w0 (.cells #[.int .i64 101, .int .i64 1, .int .i64 0, .slice (some ⟨w.heap.size, 0, none⟩) 1 1] 43)
  obtain ⟨w1, hw1⟩ : ∃ w1, w0.alloc (.cells #[.int .i64 101, .int .i64 1, .int .i64 0, .slice (some ⟨w.heap.size, 0, none⟩) 1 1] 43) = w1 := ⟨_, rfl⟩
  rw [hw1] at hb1 ha1 hs1 hp1
  have hb2 := below_fresh w1 (.cells #[.int .i64 102, .int .i64 1, .int .i64 0, .slice (some ⟨w.heap.size, 0, none⟩) 1 1] 43)
  have ha2 : RdUp (w1.alloc (.cells #[.int .i64 102, .int .i64 1, .int .i64 0, .slice (some ⟨w.heap.size, 0, none⟩) 1 1] 43)) (.slice (some ⟨w1.heap.size, 0, none⟩) 1 1) [(102, 1, 0, some ⟨w.heap.size, 0, none⟩, 1, 1)] := (ownG_fresh hlUp 43 w1 [(102, 1, 0, some ⟨w.heap.size, 0, none⟩, 1, 1)] (by simp [maxLen])).rd
  have hp2 := OU.fresh w1 102 1 0 (.slice (some ⟨w.heap.size, 0, none⟩) 1 1)
  obtain ⟨w2, hw2⟩ : ∃ w2, w1.alloc (.cells #[.int .i64 102, .int .i64 1, .int .i64 0, .slice (some ⟨w.heap.size, 0, none⟩) 1 1] 43) = w2 := ⟨_, rfl⟩
  rw [hw2] at hb2 ha2 hp2
  have hl2 : RdEf w2 (.slice (some ⟨w.heap.size, 0, none⟩) 1 1) La := (hl0.below hb1).below hb2
  have hA : RdF w2 (.slice (some ⟨w.heap.size + 1, 0, none⟩) 1 1) [Fa] := by rw [← hs0]; exact ⟨_, ha1.below hb2, Tel.one ⟨rfl, rfl, rfl, hl2⟩⟩
  have hB : RdF w2 (.slice (some ⟨w.heap.size + 1 + 1, 0, none⟩) 1 1) [Fb] := by rw [← hs0, ← hs1]; exact ⟨_, ha2, Tel.one ⟨rfl, rfl, rfl, hl2⟩⟩
  have hpa : OU w2 (w.heap.size + 1) 101 1 0 (.slice (some ⟨w.heap.size, 0, none⟩) 1 1) := by rw [← hs0]; exact hp1.below hb2
  have hpb : OU w2 (w.heap.size + 1 + 1) 102 1 0 (.slice (some ⟨w.heap.size, 0, none⟩) 1 1) := by rw [← hs0, ← hs1]; exact hp2
  have HA := Lib.hid hA
  have HB := Lib.hid hB
  have HL := Lib.hid hl2
  have HPA := Lib.hid hpa
  have HPB := Lib.hid hpb
  have HBW := Lib.hid (bnext (bnext hb0 hb1) hb2)
  have HT := Lib.hid (hT.below HBW.out)
  have HW := Lib.hid (And.intro hw0 (And.intro hw1 hw2))
  have HU := oUnion _ _ _ _ w2 hA hB ok_a ok_b
  rw [un_ab] at HU
  have HU := Lib.hid HU
  clear hT hb0 hl0 hs0 hb1 ha1 hs1 hp1 hb2 ha2 hl2 hA hB hp2 hpa hpb hw0 hw1 hw2
  go_enter Tryd.func13, Tryd.ntmps13
  go_wp2_with fail
  rw [HW.out.1, HW.out.2.1, HW.out.2.2]
  refine HU.out.mono ?_
  rintro e w3 ⟨v3, rfl, hr, hb⟩
  obtain ⟨a3, c3, rfl, _, _⟩ := hr.shape
  replace HA := Lib.hid (HA.out.below hb)
  replace HB := Lib.hid (HB.out.below hb)
  replace HL := Lib.hid (HL.out.below hb)
  replace HPA := Lib.hid (HPA.out.below hb)
  replace HPB := Lib.hid (HPB.out.below hb)
  replace HT := Lib.hid (HT.out.below hb)
  replace HBW := Lib.hid (bnext HBW.out hb)
  replace HU := Lib.hid (show RdF w3 (.slice a3 2 c3) [Fa, Fb] from hr)
  have hlen : ([Fa, Fb] : List Fp).length = 2 := rfl
  rw [hlen]
  have hC := gAdd _ _ 101 1 0 (.slice (some ⟨w.heap.size, 0, none⟩) 1 1) La w3 HU.out HL.out ok_ab HT.out (fun e he => ⟨(la_fit e he).2.1, (la_fit e he).2.2.1⟩)
  rw [show SM.addU [Fa, Fb] ((101 : Int), (1 : Int), (0 : Int), La) = (5, []) from add_ab] at hC
  have HC := Lib.hid hC
  clear hr hb hC hlen HW
  obtain ⟨p0, p1, p2, p3, _⟩ := HPA.out.cells
  go_wp2_with fail
  refine HC.out.mono ?_
  rintro e w4 ⟨v4, rfl, _, hb⟩
  replace HA := Lib.hid (HA.out.below hb)
  replace HB := Lib.hid (HB.out.below hb)
  replace HL := Lib.hid (HL.out.below hb)
  replace HPA := Lib.hid (HPA.out.below hb)
  replace HPB := Lib.hid (HPB.out.below hb)
  replace HT := Lib.hid (HT.out.below hb)
  replace HBW := Lib.hid (bnext HBW.out hb)
  replace HU := Lib.hid (HU.out.below hb)
  replace HC := Lib.hid (gAppendC (.slice none 0 0) [] _ _ w4 (Rd.nil _) HU.out ok_ab ab_fit.i (by simp))
  clear hb p0 p1 p2 p3
  go_wp2_with fail
  refine HC.out.mono ?_
  rintro e w5 ⟨v5, rfl, ho, hb⟩
  replace HA := Lib.hid (HA.out.below hb)
  replace HB := Lib.hid (HB.out.below hb)
  replace HL := Lib.hid (HL.out.below hb)
  replace HPA := Lib.hid (HPA.out.below hb)
  replace HPB := Lib.hid (HPB.out.below hb)
  replace HT := Lib.hid (HT.out.below hb)
  replace HBW := Lib.hid (bnext HBW.out hb)
  replace HU := Lib.hid (HU.out.below hb)
  have hD := gDecodeC v5 _ w5 HT.out ho.rd
  rw [List.nil_append, dec_ab] at hD
  have hN := enc_pos [Fa, Fb]
  have hN2 := ho.rd.len64
  rw [List.nil_append] at hN2
  generalize (SM.encL [Fa, Fb]).length = N at hD hN hN2
  have hN3 : (0 : Int) < (N : Int) := by omega
  have HD := Lib.hid hD
  clear hb ho hD HC hN hN2
  go_wp2_with fail
  refine HD.out.mono ?_
  rintro e w6 ⟨v6, rfl, hr, hb⟩
  replace HA := Lib.hid (HA.out.below hb)
  replace HB := Lib.hid (HB.out.below hb)
  replace HL := Lib.hid (HL.out.below hb)
  replace HPA := Lib.hid (HPA.out.below hb)
  replace HPB := Lib.hid (HPB.out.below hb)
  replace HT := Lib.hid (HT.out.below hb)
  replace HBW := Lib.hid (bnext HBW.out hb)
  replace HU := Lib.hid (HU.out.below hb)
  have HR := Lib.hid hr
  replace HC := Lib.hid (oVector _ _ w6 HA.out ok_a)
  clear hr hb HD
  go_wp2_with fail
  refine HC.out.mono ?_
  rintro e w7 ⟨v7, rfl, ho, hb⟩
  replace HA := Lib.hid (HA.out.below hb)
  replace HB := Lib.hid (HB.out.below hb)
  replace HL := Lib.hid (HL.out.below hb)
  replace HPA := Lib.hid (HPA.out.below hb)
  replace HPB := Lib.hid (HPB.out.below hb)
  replace HT := Lib.hid (HT.out.below hb)
  replace HBW := Lib.hid (bnext HBW.out hb)
  replace HU := Lib.hid (HU.out.below hb)
  replace HR := Lib.hid (HR.out.below hb)
  have hC := gBeyond _ v7 _ _ 5 w7 HU.out ho.rdV (SM.vo_spec ok_a).1 (by have := SM.vo_len [Fa]; simp at this; omega) (by simp) (all_len ok_ab.all)
  rw [bey_1] at hC
  replace HC := Lib.hid hC
  clear hb ho hC
  go_wp2_with fail
  refine HC.out.mono ?_
  rintro e w8 ⟨v8, rfl, hr, hb⟩
  obtain ⟨a8, c8, rfl, _, _⟩ := hr.shape
  replace HA := Lib.hid (HA.out.below hb)
  replace HB := Lib.hid (HB.out.below hb)
  replace HL := Lib.hid (HL.out.below hb)
  replace HPA := Lib.hid (HPA.out.below hb)
  replace HPB := Lib.hid (HPB.out.below hb)
  replace HT := Lib.hid (HT.out.below hb)
  replace HBW := Lib.hid (bnext HBW.out hb)
  replace HU := Lib.hid (HU.out.below hb)
  replace HR := Lib.hid (HR.out.below hb)
  have hlen : ([Fb] : List Fp).length = 1 := rfl
  rw [hlen]
  clear hr hb hlen HC
  go_wp2
  refine wp_region_held_drew (S := fun w' => Below w8.heap.size w8 w') (by kernel_rfl) ((Below.refl _ _).drew) (fun ha => ?_)
  replace ha : Below w8.heap.size w8 w8.drew := (Below.refl _ _).drew
  generalize w8.drew = wa at ha ⊢
  refine takeH (i := 0) (v := ?_) rfl (by kernel_rfl) (by kernel_rfl) (by kernel_rfl) (fun _ _ _ h => h) (Or.inl ⟨by rfl, ?_⟩) (by assumption) ?_
  rotate_left
  · (intro w hSw; (try dsimp only at hSw); go_simp; first | done | with_reducible rfl)
  (try simp only [Act.put, List.setIfInBounds_toArray, List.set_cons_zero, List.set_cons_succ])
  refine takeH (i := 1) (v := ?_) rfl (by kernel_rfl) (by kernel_rfl) (by kernel_rfl) (fun _ _ _ h => h) (Or.inl ⟨by rfl, ?_⟩) (by assumption) ?_
  rotate_left
  · (intro w hSw; (try dsimp only at hSw); go_simp; first | done | with_reducible rfl)
  (try simp only [Act.put, List.setIfInBounds_toArray, List.set_cons_zero, List.set_cons_succ])
  refine takeH (i := 2) (v := ?_) rfl (by kernel_rfl) (by kernel_rfl) (by kernel_rfl) (fun _ _ _ h => h) (Or.inl ⟨by rfl, ?_⟩) (by assumption) ?_
  rotate_left
  · (intro w hSw; (try dsimp only at hSw); go_simp; first | done | with_reducible rfl)
  (try simp only [Act.put, List.setIfInBounds_toArray, List.set_cons_zero, List.set_cons_succ])
  refine takeH (i := 3) (v := ?_) rfl (by kernel_rfl) (by kernel_rfl) (by kernel_rfl) (fun _ _ _ h => h) (Or.inl ⟨by rfl, ?_⟩) (by assumption) ?_
  rotate_left
  · (intro w hSw; (try dsimp only at hSw); obtain ⟨p0, p1, p2, p3, _⟩ := (HPB.out.below hSw).cells; go_simp; first | done | with_reducible rfl)
  (try simp only [Act.put, List.setIfInBounds_toArray, List.set_cons_zero, List.set_cons_succ])
  refine takeH (i := 4) (v := ?_) rfl (by kernel_rfl) (by kernel_rfl) (by kernel_rfl) (fun _ _ _ h => h) (Or.inl ⟨by rfl, ?_⟩) (by assumption) ?_
  rotate_left
  · (intro w hSw; (try dsimp only at hSw); go_simp; first | done | with_reducible rfl)
  (try simp only [Act.put, List.setIfInBounds_toArray, List.set_cons_zero, List.set_cons_succ])
  refine takeH (i := 5) (v := ?_) rfl (by kernel_rfl) (by kernel_rfl) (by kernel_rfl) (fun _ _ _ h => h) (Or.inl ⟨by rfl, ?_⟩) (by assumption) ?_
  rotate_left
  · (intro w hSw; (try dsimp only at hSw); go_simp; first | done | with_reducible rfl)
  (try simp only [Act.put, List.setIfInBounds_toArray, List.set_cons_zero, List.set_cons_succ])
  refine takeH (i := 6) (v := ?_) rfl (by kernel_rfl) (by kernel_rfl) (by kernel_rfl) (fun _ _ _ h => h) (Or.inl ⟨by rfl, ?_⟩) (by assumption) ?_
  rotate_left
  · (intro w hSw; (try dsimp only at hSw); obtain ⟨p0, p1, p2, p3, _⟩ := (HPB.out.below hSw).cells; go_simp; first | done | with_reducible rfl)
  (try simp only [Act.put, List.setIfInBounds_toArray, List.set_cons_zero, List.set_cons_succ])
  refine takeH (i := 7) (v := ?_) rfl (by kernel_rfl) (by kernel_rfl) (by kernel_rfl) (fun _ _ _ h => h) (Or.inl ⟨by rfl, ?_⟩) (by assumption) ?_
  rotate_left
  · (intro w hSw; (try dsimp only at hSw); go_simp; first | done | with_reducible rfl)
  (try simp only [Act.put, List.setIfInBounds_toArray, List.set_cons_zero, List.set_cons_succ])
  refine takeH (i := 8) (v := ?_) rfl (by kernel_rfl) (by kernel_rfl) (by kernel_rfl) (fun _ _ _ h => h) (Or.inl ⟨by rfl, ?_⟩) (by assumption) ?_
  rotate_left
  · (intro w hSw; (try dsimp only at hSw); go_simp; first | done | with_reducible rfl)
  (try simp only [Act.put, List.setIfInBounds_toArray, List.set_cons_zero, List.set_cons_succ])
  refine wpAnyH_ready (rs := [9]) (by kernel_rfl) (by simp) ?_
  refine stepH rfl (fun K hK => ?_) AllReadyH.nil
  go_simp
  have hb := bnext ha (below_fresh _ (.cells #[.int .i64 102, .int .i64 1, .int .i64 0, .slice (some ⟨w.heap.size, 0, none⟩) 1 1, .int .i64 102, .int .i64 1, .int .i64 0, .slice (some ⟨w.heap.size, 0, none⟩) 1 1, .int .i64 101, .int .i64 3, .int .i64 0, .slice (some ⟨w.heap.size, 0, none⟩) 1 1] 43))
  have hrp : RdUp (wa.alloc (.cells #[.int .i64 102, .int .i64 1, .int .i64 0, .slice (some ⟨w.heap.size, 0, none⟩) 1 1, .int .i64 102, .int .i64 1, .int .i64 0, .slice (some ⟨w.heap.size, 0, none⟩) 1 1, .int .i64 101, .int .i64 3, .int .i64 0, .slice (some ⟨w.heap.size, 0, none⟩) 1 1] 43)) (.slice (some ⟨wa.heap.size, 0, none⟩) 3 3) [(102, 1, 0, some ⟨w.heap.size, 0, none⟩, 1, 1), (102, 1, 0, some ⟨w.heap.size, 0, none⟩, 1, 1), (101, 3, 0, some ⟨w.heap.size, 0, none⟩, 1, 1)] := (ownG_fresh hlUp 43 wa [(102, 1, 0, some ⟨w.heap.size, 0, none⟩, 1, 1), (102, 1, 0, some ⟨w.heap.size, 0, none⟩, 1, 1), (101, 3, 0, some ⟨w.heap.size, 0, none⟩, 1, 1)] (by simp [maxLen])).rd
  refine hK.out _ _ (hb) (fun _ => ?_)
  clear hK K
  (try simp only [Act.put, List.setIfInBounds_toArray, List.set_cons_zero, List.set_cons_succ])
  obtain ⟨wb , hwb ⟩ : ∃ wb , (wa).alloc (.cells #[.int .i64 102, .int .i64 1, .int .i64 0, .slice (some ⟨w.heap.size, 0, none⟩) 1 1, .int .i64 102, .int .i64 1, .int .i64 0, .slice (some ⟨w.heap.size, 0, none⟩) 1 1, .int .i64 101, .int .i64 3, .int .i64 0, .slice (some ⟨w.heap.size, 0, none⟩) 1 1] 43) = wb  := ⟨_, rfl⟩
  rw [hwb ] at hb hrp ⊢
  clear hwb 
  refine wpAnyH_ready (rs := [10]) (by kernel_rfl) (by simp) ?_
  refine stepH rfl (fun K hK => ?_) AllReadyH.nil
  go_simp
  have hl3 := HL.out.below hb
  have hM := gMerge _ _ [Fa] [Fb, Fb, Fc] wb (HT.out.below hb) (HA.out.below hb) ⟨_, hrp, ⟨⟨rfl, rfl, rfl, hl3⟩, ⟨rfl, rfl, rfl, hl3⟩, ⟨rfl, rfl, rfl, hl3⟩, trivial⟩⟩ ok_a (by simp) l_fit.n
  rw [mrg_1] at hM
  refine hM.mono ?_
  rintro e wc ⟨vc, rfl, hrc, hq⟩
  obtain ⟨ac, cc, rfl, _, _⟩ := hrc.shape
  have hc := bnext hb hq
  go_wp2_with fail
  refine hK.out _ _ (hc) (fun _ => ?_)
  clear hK K
  (try simp only [Act.put, List.setIfInBounds_toArray, List.set_cons_zero, List.set_cons_succ])
  refine takeH (i := 11) (v := ?_) rfl (by kernel_rfl) (by kernel_rfl) (by kernel_rfl) (fun _ _ _ h => h) (Or.inl ⟨by rfl, ?_⟩) (by assumption) ?_
  rotate_left
  · (intro w hSw; (try dsimp only at hSw); go_simp; first | done | with_reducible rfl)
  (try simp only [Act.put, List.setIfInBounds_toArray, List.set_cons_zero, List.set_cons_succ])
  refine takeH (i := 12) (v := ?_) rfl (by kernel_rfl) (by kernel_rfl) (by kernel_rfl) (fun _ _ _ h => h) (Or.inl ⟨by rfl, ?_⟩) (by assumption) ?_
  rotate_left
  · (intro w hSw; (try dsimp only at hSw); go_simp; first | done | with_reducible rfl)
  (try simp only [Act.put, List.setIfInBounds_toArray, List.set_cons_zero, List.set_cons_succ])
  refine takeH (i := 13) (v := ?_) rfl (by kernel_rfl) (by kernel_rfl) (by kernel_rfl) (fun _ _ _ h => h) (Or.inl ⟨by rfl, ?_⟩) (by assumption) ?_
  rotate_left
  · (intro w hSw; (try dsimp only at hSw); go_simp; first | done | with_reducible rfl)
  (try simp only [Act.put, List.setIfInBounds_toArray, List.set_cons_zero, List.set_cons_succ])
  refine takeH (i := 14) (v := ?_) rfl (by kernel_rfl) (by kernel_rfl) (by kernel_rfl) (fun _ _ _ h => h) (Or.inl ⟨by rfl, ?_⟩) (by assumption) ?_
  rotate_left
  · (intro w hSw; (try dsimp only at hSw); go_simp; first | done | with_reducible rfl)
  (try simp only [Act.put, List.setIfInBounds_toArray, List.set_cons_zero, List.set_cons_succ])
  refine takeH (i := 15) (v := ?_) rfl (by kernel_rfl) (by kernel_rfl) (by kernel_rfl) (fun _ _ _ h => h) (Or.inl ⟨by rfl, ?_⟩) (by assumption) ?_
  rotate_left
  · (intro w hSw; (try dsimp only at hSw); go_simp; first | done | with_reducible rfl)
  (try simp only [Act.put, List.setIfInBounds_toArray, List.set_cons_zero, List.set_cons_succ])
  refine takeH (i := 16) (v := ?_) rfl (by kernel_rfl) (by kernel_rfl) (by kernel_rfl) (fun _ _ _ h => h) (Or.inl ⟨by rfl, ?_⟩) (by assumption) ?_
  rotate_left
  · (intro w hSw; (try dsimp only at hSw); go_simp; first | done | with_reducible rfl)
  (try simp only [Act.put, List.setIfInBounds_toArray, List.set_cons_zero, List.set_cons_succ])
  refine takeH (i := 17) (v := ?_) rfl (by kernel_rfl) (by kernel_rfl) (by kernel_rfl) (fun _ _ _ h => h) (Or.inl ⟨by rfl, ?_⟩) (by assumption) ?_
  rotate_left
  · (intro w hSw; (try dsimp only at hSw); go_simp; first | done | with_reducible rfl)
  (try simp only [Act.put, List.setIfInBounds_toArray, List.set_cons_zero, List.set_cons_succ])
  refine wpAnyH_done (by kernel_rfl) ?_ _
  have hb := hc
  obtain ⟨w9, hw9⟩ : ∃ w9, w9 = wc := ⟨_, rfl⟩
  rw [← hw9] at hb hrc ⊢
  clear hw9 hrp hl3 hc ha
  replace HA := Lib.hid (HA.out.below hb)
  replace HB := Lib.hid (HB.out.below hb)
  replace HL := Lib.hid (HL.out.below hb)
  replace HPA := Lib.hid (HPA.out.below hb)
  replace HPB := Lib.hid (HPB.out.below hb)
  replace HT := Lib.hid (HT.out.below hb)
  replace HBW := Lib.hid (bnext HBW.out hb)
  replace HU := Lib.hid (HU.out.below hb)
  replace HR := Lib.hid (HR.out.below hb)
  have hC := oContains _ _ _ _ w9 HU.out HB.out ok_ab
  rw [cons_1] at hC
  have HC := Lib.hid hC
  clear hb hrc hC
  go_wp2_with fail
  refine HC.out.mono ?_
  rintro e w10 ⟨rfl, hb⟩
  replace HA := Lib.hid (HA.out.below hb)
  replace HB := Lib.hid (HB.out.below hb)
  replace HL := Lib.hid (HL.out.below hb)
  replace HPA := Lib.hid (HPA.out.below hb)
  replace HPB := Lib.hid (HPB.out.below hb)
  replace HT := Lib.hid (HT.out.below hb)
  replace HBW := Lib.hid (bnext HBW.out hb)
  replace HU := Lib.hid (HU.out.below hb)
  replace HR := Lib.hid (HR.out.below hb)
  have hC := oContains _ _ _ _ w10 HA.out HU.out ok_a
  rw [cons_2] at hC
  replace HC := Lib.hid hC
  clear hb hC
  go_wp2_with fail
  refine HC.out.mono ?_
  rintro e w11 ⟨rfl, hb⟩
  replace HA := Lib.hid (HA.out.below hb)
  replace HB := Lib.hid (HB.out.below hb)
  replace HL := Lib.hid (HL.out.below hb)
  replace HPA := Lib.hid (HPA.out.below hb)
  replace HPB := Lib.hid (HPB.out.below hb)
  replace HT := Lib.hid (HT.out.below hb)
  replace HBW := Lib.hid (bnext HBW.out hb)
  replace HU := Lib.hid (HU.out.below hb)
  replace HR := Lib.hid (HR.out.below hb)
  have hC := gEqual _ _ _ _ w11 HR.out HU.out
  rw [decide_eq_true rfl] at hC
  replace HC := Lib.hid hC
  clear hb hC
  go_wp2_with fail
  refine HC.out.mono ?_
  rintro e w12 ⟨rfl, hb⟩
  replace HA := Lib.hid (HA.out.below hb)
  replace HB := Lib.hid (HB.out.below hb)
  replace HL := Lib.hid (HL.out.below hb)
  replace HPA := Lib.hid (HPA.out.below hb)
  replace HPB := Lib.hid (HPB.out.below hb)
  replace HT := Lib.hid (HT.out.below hb)
  replace HBW := Lib.hid (bnext HBW.out hb)
  replace HU := Lib.hid (HU.out.below hb)
  have hC := gValidate _ _ w12 HT.out ab_fit.n HU.out
  rw [show SM.errL (0, 0) [Fa, Fb] = 0 from ok_ab] at hC
  replace HC := Lib.hid hC
  clear hb hC
  go_wp2_with fail
  refine HC.out.mono ?_
  rintro e w13 ⟨rfl, hb⟩
  replace HBW := Lib.hid (bnext HBW.out hb)
  clear hb HC
  go_wp2
  go_ret
  exact ⟨rfl, HBW.out⟩

end Go.Proofs.YtohcmbdlcnhlfaaDoor.ST

namespace Go.Proofs.YtohcmbdlcnhlfaaDoor.ST
open Go.RowKit Go.Joins
open UM (Ef)
open SM (Fp)
open VM (Ent)

set_option maxRecDepth 100000 in
theorem kShort (v : Value) (fs : List Fp) (w : World) (h : RdF w v fs) :
    Calls Tryd.prog 12 #[v] w fun e w' => e = .returned (.bool (decide ((fs.length : Int) ≤ 60))) ∧ Below w.heap.size w w' := by
  obtain ⟨ad, cp, rfl, hcp, _⟩ := h.shape
  clear h
  go_enter Tryd.func12, Tryd.ntmps12
  go_wp2
  go_ret
  exact ⟨rfl, Below.refl _ _⟩
theorem fitN_ok {fs : List Fp} (h : ∀ f ∈ fs, SM.errF f = 0) : FitN fs := fun f hf => nm_ok (h f hf)

set_option maxRecDepth 100000 in
set_option maxHeartbeats 4000000 in
theorem lStateValidate (v : Value) (fs : List Fp) (w : World) (hT : Tb w) (h : RdF w v fs) (hfit : FitE fs) :
    Calls Tryd.prog 3 #[v] w fun e w' => e = .returned (.bool true) ∧ Below w.heap.size w w' := by
  have HF := Lib.hid h
  have HT := Lib.hid hT
  have H1 := Lib.hid (fun w' (ht : Tb w') (hh : RdF w' v fs) => gValidate _ fs w' ht hfit.n hh)
  have H2 := Lib.hid (fun w' (hh : RdF w' v fs) => rValidateS _ fs w' hh)
  generalize SM.errL (0, 0) fs = E at H1 H2
  have he : (E == E) = true := beq_t rfl
  clear h hT hfit
  by_cases hs60 : (fs.length : Int) ≤ 60
  · have HB := Lib.hid (Below.refl w.heap.size w)
    go_enter Tryd.func3, Tryd.ntmps3
    have hC := kShort _ _ w HF.out
    rw [decide_eq_true hs60] at hC
    have HC := Lib.hid hC
    clear hC
    go_wp2_with fail
    refine HC.out.mono ?_
    rintro e w1 ⟨rfl, hb⟩
    replace HF := Lib.hid (HF.out.below hb)
    replace HT := Lib.hid (HT.out.below hb)
    replace HB := Lib.hid (bnext HB.out hb)
    clear hb HC
    have hC := H1.out w1 HT.out HF.out
    have HC := Lib.hid hC
    clear hC
    go_wp2_with fail
    refine HC.out.mono ?_
    rintro e w2 ⟨rfl, hb⟩
    replace HF := Lib.hid (HF.out.below hb)
    replace HT := Lib.hid (HT.out.below hb)
    replace HB := Lib.hid (bnext HB.out hb)
    clear hb HC
    have hC := H2.out w2 HF.out
    have HC := Lib.hid hC
    clear hC
    go_wp2_with fail
    refine HC.out.mono ?_
    rintro e w3 ⟨rfl, hb⟩
    replace HF := Lib.hid (HF.out.below hb)
    replace HT := Lib.hid (HT.out.below hb)
    replace HB := Lib.hid (bnext HB.out hb)
    clear hb HC
    have hC := cAwake12 w3 HT.out
    have HC := Lib.hid hC
    clear hC
    go_wp2_with fail
    refine HC.out.mono ?_
    rintro e w4 ⟨rfl, hb⟩
    replace HF := Lib.hid (HF.out.below hb)
    replace HT := Lib.hid (HT.out.below hb)
    replace HB := Lib.hid (bnext HB.out hb)
    clear hb HC
    go_wp2
    go_ret
    exact ⟨rfl, HB.out⟩
  · have HB := Lib.hid (Below.refl w.heap.size w)
    go_enter Tryd.func3, Tryd.ntmps3
    have hC := kShort _ _ w HF.out
    rw [decide_eq_false hs60] at hC
    have HC := Lib.hid hC
    clear hC
    go_wp2_with fail
    refine HC.out.mono ?_
    rintro e w1 ⟨rfl, hb⟩
    replace HF := Lib.hid (HF.out.below hb)
    replace HT := Lib.hid (HT.out.below hb)
    replace HB := Lib.hid (bnext HB.out hb)
    clear hb HC
    have hC := cAwake12 w1 HT.out
    have HC := Lib.hid hC
    clear hC
    go_wp2_with fail
    refine HC.out.mono ?_
    rintro e w2 ⟨rfl, hb⟩
    replace HF := Lib.hid (HF.out.below hb)
    replace HT := Lib.hid (HT.out.below hb)
    replace HB := Lib.hid (bnext HB.out hb)
    clear hb HC
    go_wp2
    go_ret
    exact ⟨rfl, HB.out⟩

set_option maxRecDepth 100000 in
set_option maxHeartbeats 4000000 in
theorem lStateDecode (v : Value) (xs : List Int) (w : World) (hT : Tb w) (h : Rd w v xs) :
    Calls Tryd.prog 11 #[v] w fun e w' => e = .returned (.bool true) ∧ Below w.heap.size w w' := by
  obtain ⟨ad, cp, rfl, hcp⟩ := h.shape
  have HF := Lib.hid h
  have HT := Lib.hid hT
  clear hT
  by_cases hl : 500 < xs.length
  · have hq : (500 : Int) < (xs.length : Int) := by omega
    clear h
    have HB := Lib.hid (Below.refl w.heap.size w)
    go_enter Tryd.func11, Tryd.ntmps11
    have hC := cAwake12 w HT.out
    have HC := Lib.hid hC
    clear hC
    go_wp2_with fail
    refine HC.out.mono ?_
    rintro e w1 ⟨rfl, hb⟩
    replace HT := Lib.hid (HT.out.below hb)
    replace HB := Lib.hid (bnext HB.out hb)
    clear hb HC
    go_wp2
    go_ret
    exact ⟨rfl, HB.out⟩
  · have hq : ¬ (500 : Int) < (xs.length : Int) := by omega
    have H1 := Lib.hid (fun w' (ht : Tb w') (hh : Rd w' (.slice ad xs.length cp) xs) => gDecodeC _ xs w' ht hh)
    have H2 := Lib.hid (fun w' (hh : Rd w' (.slice ad xs.length cp) xs) => rDecodeS _ xs w' hh)
    generalize SM.decL xs = R at H1 H2
    obtain ⟨er, u, fs⟩ := R
    have he : (er == er) = true := beq_t rfl
    have hu : ((u : Int) == (u : Int)) = true := beq_t rfl
    clear h
    have HB := Lib.hid (Below.refl w.heap.size w)
    go_enter Tryd.func11, Tryd.ntmps11
    have hC := H1.out w HT.out HF.out
    have HC := Lib.hid hC
    clear hC
    go_wp2_with fail
    refine HC.out.mono ?_
    rintro e w1 ⟨vR1, rfl, hr, hb⟩
    replace HF := Lib.hid (HF.out.below hb)
    replace HT := Lib.hid (HT.out.below hb)
    replace HB := Lib.hid (bnext HB.out hb)
    have R1 := Lib.hid hr
    clear hb HC hr
    have hC := H2.out w1 HF.out
    have HC := Lib.hid hC
    clear hC
    go_wp2_with fail
    refine HC.out.mono ?_
    rintro e w2 ⟨vR2, rfl, hr, hb⟩
    replace HF := Lib.hid (HF.out.below hb)
    replace HT := Lib.hid (HT.out.below hb)
    replace R1 := Lib.hid (R1.out.below hb)
    replace HB := Lib.hid (bnext HB.out hb)
    have R2 := Lib.hid hr
    clear hb HC hr
    have hC := rEqualState _ _ _ _ w2 R1.out R2.out
    rw [decide_eq_true rfl] at hC
    have HC := Lib.hid hC
    clear hC
    go_wp2_with fail
    refine HC.out.mono ?_
    rintro e w3 ⟨rfl, hb⟩
    replace HF := Lib.hid (HF.out.below hb)
    replace HT := Lib.hid (HT.out.below hb)
    replace R1 := Lib.hid (R1.out.below hb)
    replace R2 := Lib.hid (R2.out.below hb)
    replace HB := Lib.hid (bnext HB.out hb)
    clear hb HC
    have hC := cAwake12 w3 HT.out
    have HC := Lib.hid hC
    clear hC
    go_wp2_with fail
    refine HC.out.mono ?_
    rintro e w4 ⟨rfl, hb⟩
    replace HF := Lib.hid (HF.out.below hb)
    replace HT := Lib.hid (HT.out.below hb)
    replace R1 := Lib.hid (R1.out.below hb)
    replace R2 := Lib.hid (R2.out.below hb)
    replace HB := Lib.hid (bnext HB.out hb)
    clear hb HC
    go_wp2
    go_ret
    exact ⟨rfl, HB.out⟩

end Go.Proofs.YtohcmbdlcnhlfaaDoor.ST

namespace Go.Proofs.YtohcmbdlcnhlfaaDoor.ST
open Go.RowKit Go.Joins
open UM (Ef)
open SM (Fp)
open VM (Ent)

set_option maxRecDepth 100000 in
set_option maxHeartbeats 4000000 in
theorem lStateBeyond (v u : Value) (n : Int) (fs : List Fp) (vs : List Ent) (w : World) (hT : Tb w) (h : RdF w v fs) (hv : VX.RdV w u vs) :
    Calls Tryd.prog 7 #[v, u, .int .i64 n] w fun e w' => e = .returned (.bool true) ∧ Below w.heap.size w w' := by
  obtain ⟨bd, bp, rfl, hbp, _⟩ := hv.shape
  have HF := Lib.hid h
  have HV := Lib.hid hv
  have HT := Lib.hid hT
  clear h hv hT
  by_cases hs60 : (fs.length : Int) ≤ 60
  case neg =>
    have HB := Lib.hid (Below.refl w.heap.size w)
    go_enter Tryd.func7, Tryd.ntmps7
    have hC := kShort _ _ w HF.out
    rw [decide_eq_false hs60] at hC
    have HC := Lib.hid hC
    clear hC
    go_wp2_with fail
    refine HC.out.mono ?_
    rintro e w1 ⟨rfl, hb⟩
    replace HF := Lib.hid (HF.out.below hb)
    replace HT := Lib.hid (HT.out.below hb)
    replace HB := Lib.hid (bnext HB.out hb)
    clear hb HC
    have hC := cAwake12 w1 HT.out
    have HC := Lib.hid hC
    clear hC
    go_wp2_with fail
    refine HC.out.mono ?_
    rintro e w2 ⟨rfl, hb⟩
    replace HF := Lib.hid (HF.out.below hb)
    replace HT := Lib.hid (HT.out.below hb)
    replace HB := Lib.hid (bnext HB.out hb)
    clear hb HC
    go_wp2
    go_ret
    exact ⟨rfl, HB.out⟩
  by_cases hl2 : 40 < vs.length
  · have hq2 : (40 : Int) < (vs.length : Int) := by omega
    have HB := Lib.hid (Below.refl w.heap.size w)
    go_enter Tryd.func7, Tryd.ntmps7
    have hC := kShort _ _ w HF.out
    rw [decide_eq_true hs60] at hC
    have HC := Lib.hid hC
    clear hC
    go_wp2_with fail
    refine HC.out.mono ?_
    rintro e w1 ⟨rfl, hb⟩
    replace HF := Lib.hid (HF.out.below hb)
    replace HT := Lib.hid (HT.out.below hb)
    replace HB := Lib.hid (bnext HB.out hb)
    clear hb HC
    have hC := cAwake12 w1 HT.out
    have HC := Lib.hid hC
    clear hC
    go_wp2_with fail
    refine HC.out.mono ?_
    rintro e w2 ⟨rfl, hb⟩
    replace HF := Lib.hid (HF.out.below hb)
    replace HT := Lib.hid (HT.out.below hb)
    replace HB := Lib.hid (bnext HB.out hb)
    clear hb HC
    go_wp2
    go_ret
    exact ⟨rfl, HB.out⟩
  have hq2 : ¬ (40 : Int) < (vs.length : Int) := by omega
  have H1 := Lib.hid (fun w' (hh : RdF w' v fs) => rValidateS _ fs w' hh)
  have H2 := Lib.hid (fun w' (hh : VX.RdV w' (.slice bd vs.length bp) vs) => VX.rValidate _ vs w' hh)
  obtain ⟨E1, hE1⟩ : ∃ E, E = SM.errL (0, 0) fs := ⟨_, rfl⟩
  obtain ⟨E2, hE2⟩ : ∃ E, E = VM.err 0 vs := ⟨_, rfl⟩
  rw [← hE1] at H1
  rw [← hE2] at H2
  by_cases h1 : E1 = 0
  case neg =>
    have hne : (E1 != 0) = true := bne_t h1
    clear hE1 hE2 h1
    have HB := Lib.hid (Below.refl w.heap.size w)
    go_enter Tryd.func7, Tryd.ntmps7
    have hC := kShort _ _ w HF.out
    rw [decide_eq_true hs60] at hC
    have HC := Lib.hid hC
    clear hC
    go_wp2_with fail
    refine HC.out.mono ?_
    rintro e w1 ⟨rfl, hb⟩
    replace HF := Lib.hid (HF.out.below hb)
    replace HV := Lib.hid (HV.out.below hb)
    replace HT := Lib.hid (HT.out.below hb)
    replace HB := Lib.hid (bnext HB.out hb)
    clear hb HC
    have hC := H1.out w1 HF.out
    have HC := Lib.hid hC
    clear hC
    go_wp2_with fail
    refine HC.out.mono ?_
    rintro e w2 ⟨rfl, hb⟩
    replace HF := Lib.hid (HF.out.below hb)
    replace HV := Lib.hid (HV.out.below hb)
    replace HT := Lib.hid (HT.out.below hb)
    replace HB := Lib.hid (bnext HB.out hb)
    clear hb HC
    have hC := cAwake12 w2 HT.out
    have HC := Lib.hid hC
    clear hC
    go_wp2_with fail
    refine HC.out.mono ?_
    rintro e w3 ⟨rfl, hb⟩
    replace HF := Lib.hid (HF.out.below hb)
    replace HV := Lib.hid (HV.out.below hb)
    replace HT := Lib.hid (HT.out.below hb)
    replace HB := Lib.hid (bnext HB.out hb)
    clear hb HC
    go_wp2
    go_ret
    exact ⟨rfl, HB.out⟩
  by_cases h2 : E2 = 0
  case neg =>
    have hne : (E2 != 0) = true := bne_t h2
    subst h1
    clear hE1 hE2 h2
    have HB := Lib.hid (Below.refl w.heap.size w)
    go_enter Tryd.func7, Tryd.ntmps7
    have hC := kShort _ _ w HF.out
    rw [decide_eq_true hs60] at hC
    have HC := Lib.hid hC
    clear hC
    go_wp2_with fail
    refine HC.out.mono ?_
    rintro e w1 ⟨rfl, hb⟩
    replace HF := Lib.hid (HF.out.below hb)
    replace HV := Lib.hid (HV.out.below hb)
    replace HT := Lib.hid (HT.out.below hb)
    replace HB := Lib.hid (bnext HB.out hb)
    clear hb HC
    have hC := H1.out w1 HF.out
    have HC := Lib.hid hC
    clear hC
    go_wp2_with fail
    refine HC.out.mono ?_
    rintro e w2 ⟨rfl, hb⟩
    replace HF := Lib.hid (HF.out.below hb)
    replace HV := Lib.hid (HV.out.below hb)
    replace HT := Lib.hid (HT.out.below hb)
    replace HB := Lib.hid (bnext HB.out hb)
    clear hb HC
    have hC := H2.out w2 HV.out
    have HC := Lib.hid hC
    clear hC
    go_wp2_with fail
    refine HC.out.mono ?_
    rintro e w3 ⟨rfl, hb⟩
    replace HF := Lib.hid (HF.out.below hb)
    replace HV := Lib.hid (HV.out.below hb)
    replace HT := Lib.hid (HT.out.below hb)
    replace HB := Lib.hid (bnext HB.out hb)
    clear hb HC
    have hC := cAwake12 w3 HT.out
    have HC := Lib.hid hC
    clear hC
    go_wp2_with fail
    refine HC.out.mono ?_
    rintro e w4 ⟨rfl, hb⟩
    replace HF := Lib.hid (HF.out.below hb)
    replace HV := Lib.hid (HV.out.below hb)
    replace HT := Lib.hid (HT.out.below hb)
    replace HB := Lib.hid (bnext HB.out hb)
    clear hb HC
    go_wp2
    go_ret
    exact ⟨rfl, HB.out⟩
  subst h1 h2
  have hok : SM.Ok fs := hE1.symm
  have hval : VM.Val 0 vs := (VM.err_val (Int.le_refl _)).1 hE2.symm
  have h48 := hok.all48
  have HG1 := Lib.hid (fun w' (hh : RdF w' v fs) (hg : VX.RdV w' (.slice bd vs.length bp) vs) => gBeyond _ _ fs vs n w' hh hg hval (by omega) (by omega) (all_len hok.all))
  have HG2 := Lib.hid (fun w' (hh : RdF w' v fs) (hg : VX.RdV w' (.slice bd vs.length bp) vs) => rBeyond _ _ fs vs n w' hh hg (by omega))
  generalize SM.bey fs (VM.cnt vs) n = R at HG1 HG2
  obtain ⟨l, b⟩ := R
  have hbb : (b == b) = true := by cases b <;> rfl
  clear hE1 hE2 hok hval
  have HB := Lib.hid (Below.refl w.heap.size w)
  go_enter Tryd.func7, Tryd.ntmps7
  have hC := kShort _ _ w HF.out
  rw [decide_eq_true hs60] at hC
  have HC := Lib.hid hC
  clear hC
  go_wp2_with fail
  refine HC.out.mono ?_
  rintro e w1 ⟨rfl, hb⟩
  replace HF := Lib.hid (HF.out.below hb)
  replace HV := Lib.hid (HV.out.below hb)
  replace HT := Lib.hid (HT.out.below hb)
  replace HB := Lib.hid (bnext HB.out hb)
  clear hb HC
  have hC := H1.out w1 HF.out
  have HC := Lib.hid hC
  clear hC
  go_wp2_with fail
  refine HC.out.mono ?_
  rintro e w2 ⟨rfl, hb⟩
  replace HF := Lib.hid (HF.out.below hb)
  replace HV := Lib.hid (HV.out.below hb)
  replace HT := Lib.hid (HT.out.below hb)
  replace HB := Lib.hid (bnext HB.out hb)
  clear hb HC
  have hC := H2.out w2 HV.out
  have HC := Lib.hid hC
  clear hC
  go_wp2_with fail
  refine HC.out.mono ?_
  rintro e w3 ⟨rfl, hb⟩
  replace HF := Lib.hid (HF.out.below hb)
  replace HV := Lib.hid (HV.out.below hb)
  replace HT := Lib.hid (HT.out.below hb)
  replace HB := Lib.hid (bnext HB.out hb)
  clear hb HC
  have hC := HG1.out w3 HF.out HV.out
  have HC := Lib.hid hC
  clear hC
  go_wp2_with fail
  refine HC.out.mono ?_
  rintro e w4 ⟨vR1, rfl, hr, hb⟩
  replace HF := Lib.hid (HF.out.below hb)
  replace HV := Lib.hid (HV.out.below hb)
  replace HT := Lib.hid (HT.out.below hb)
  replace HB := Lib.hid (bnext HB.out hb)
  have R1 := Lib.hid hr
  clear hb HC hr
  have hC := HG2.out w4 HF.out HV.out
  have HC := Lib.hid hC
  clear hC
  go_wp2_with fail
  refine HC.out.mono ?_
  rintro e w5 ⟨vR2, rfl, hr, hb⟩
  replace HF := Lib.hid (HF.out.below hb)
  replace HV := Lib.hid (HV.out.below hb)
  replace HT := Lib.hid (HT.out.below hb)
  replace R1 := Lib.hid (R1.out.below hb)
  replace HB := Lib.hid (bnext HB.out hb)
  have R2 := Lib.hid hr
  clear hb HC hr
  have hC := rEqualState _ _ _ _ w5 R1.out R2.out
  rw [decide_eq_true rfl] at hC
  have HC := Lib.hid hC
  clear hC
  go_wp2_with fail
  refine HC.out.mono ?_
  rintro e w6 ⟨rfl, hb⟩
  replace HF := Lib.hid (HF.out.below hb)
  replace HV := Lib.hid (HV.out.below hb)
  replace HT := Lib.hid (HT.out.below hb)
  replace R1 := Lib.hid (R1.out.below hb)
  replace R2 := Lib.hid (R2.out.below hb)
  replace HB := Lib.hid (bnext HB.out hb)
  clear hb HC
  have hC := cAwake12 w6 HT.out
  have HC := Lib.hid hC
  clear hC
  go_wp2_with fail
  refine HC.out.mono ?_
  rintro e w7 ⟨rfl, hb⟩
  replace HF := Lib.hid (HF.out.below hb)
  replace HV := Lib.hid (HV.out.below hb)
  replace HT := Lib.hid (HT.out.below hb)
  replace R1 := Lib.hid (R1.out.below hb)
  replace R2 := Lib.hid (R2.out.below hb)
  replace HB := Lib.hid (bnext HB.out hb)
  clear hb HC
  go_wp2
  go_ret
  exact ⟨rfl, HB.out⟩

set_option maxRecDepth 100000 in
set_option maxHeartbeats 4000000 in
theorem lStateMerge (v u : Value) (fs l : List Fp) (w : World) (hT : Tb w) (h : RdF w v fs) (hv : RdF w u l) (hfit : FitE l) :
    Calls Tryd.prog 8 #[v, u] w fun e w' => e = .returned (.bool true) ∧ Below w.heap.size w w' := by
  obtain ⟨ad, cp, rfl, hcp, _⟩ := h.shape
  obtain ⟨bd, bp, rfl, hbp, _⟩ := hv.shape
  have HF := Lib.hid h
  have HV := Lib.hid hv
  have HT := Lib.hid hT
  clear h hv hT
  by_cases hs60 : (fs.length : Int) ≤ 60
  case neg =>
    have HB := Lib.hid (Below.refl w.heap.size w)
    go_enter Tryd.func8, Tryd.ntmps8
    have hC := kShort _ _ w HF.out
    rw [decide_eq_false hs60] at hC
    have HC := Lib.hid hC
    clear hC
    go_wp2_with fail
    refine HC.out.mono ?_
    rintro e w1 ⟨rfl, hb⟩
    replace HF := Lib.hid (HF.out.below hb)
    replace HT := Lib.hid (HT.out.below hb)
    replace HB := Lib.hid (bnext HB.out hb)
    clear hb HC
    have hC := cAwake12 w1 HT.out
    have HC := Lib.hid hC
    clear hC
    go_wp2_with fail
    refine HC.out.mono ?_
    rintro e w2 ⟨rfl, hb⟩
    replace HF := Lib.hid (HF.out.below hb)
    replace HT := Lib.hid (HT.out.below hb)
    replace HB := Lib.hid (bnext HB.out hb)
    clear hb HC
    go_wp2
    go_ret
    exact ⟨rfl, HB.out⟩
  by_cases hl2 : 60 < l.length
  · have hq2 : (60 : Int) < (l.length : Int) := by omega
    have HB := Lib.hid (Below.refl w.heap.size w)
    go_enter Tryd.func8, Tryd.ntmps8
    have hC := kShort _ _ w HF.out
    rw [decide_eq_true hs60] at hC
    have HC := Lib.hid hC
    clear hC
    go_wp2_with fail
    refine HC.out.mono ?_
    rintro e w1 ⟨rfl, hb⟩
    replace HF := Lib.hid (HF.out.below hb)
    replace HT := Lib.hid (HT.out.below hb)
    replace HB := Lib.hid (bnext HB.out hb)
    clear hb HC
    have hC := cAwake12 w1 HT.out
    have HC := Lib.hid hC
    clear hC
    go_wp2_with fail
    refine HC.out.mono ?_
    rintro e w2 ⟨rfl, hb⟩
    replace HF := Lib.hid (HF.out.below hb)
    replace HT := Lib.hid (HT.out.below hb)
    replace HB := Lib.hid (bnext HB.out hb)
    clear hb HC
    go_wp2
    go_ret
    exact ⟨rfl, HB.out⟩
  have hq2 : ¬ (60 : Int) < (l.length : Int) := by omega
  have H1 := Lib.hid (fun w' (hh : RdF w' (.slice ad fs.length cp) fs) => rValidateS _ fs w' hh)
  obtain ⟨E1, hE1⟩ : ∃ E, E = SM.errL (0, 0) fs := ⟨_, rfl⟩
  rw [← hE1] at H1
  by_cases h1 : E1 = 0
  case neg =>
    have hne : (E1 != 0) = true := bne_t h1
    clear hE1 h1
    have HB := Lib.hid (Below.refl w.heap.size w)
    go_enter Tryd.func8, Tryd.ntmps8
    have hC := kShort _ _ w HF.out
    rw [decide_eq_true hs60] at hC
    have HC := Lib.hid hC
    clear hC
    go_wp2_with fail
    refine HC.out.mono ?_
    rintro e w1 ⟨rfl, hb⟩
    replace HF := Lib.hid (HF.out.below hb)
    replace HV := Lib.hid (HV.out.below hb)
    replace HT := Lib.hid (HT.out.below hb)
    replace HB := Lib.hid (bnext HB.out hb)
    clear hb HC
    have hC := H1.out w1 HF.out
    have HC := Lib.hid hC
    clear hC
    go_wp2_with fail
    refine HC.out.mono ?_
    rintro e w2 ⟨rfl, hb⟩
    replace HF := Lib.hid (HF.out.below hb)
    replace HV := Lib.hid (HV.out.below hb)
    replace HT := Lib.hid (HT.out.below hb)
    replace HB := Lib.hid (bnext HB.out hb)
    clear hb HC
    have hC := cAwake12 w2 HT.out
    have HC := Lib.hid hC
    clear hC
    go_wp2_with fail
    refine HC.out.mono ?_
    rintro e w3 ⟨rfl, hb⟩
    replace HF := Lib.hid (HF.out.below hb)
    replace HV := Lib.hid (HV.out.below hb)
    replace HT := Lib.hid (HT.out.below hb)
    replace HB := Lib.hid (bnext HB.out hb)
    clear hb HC
    go_wp2
    go_ret
    exact ⟨rfl, HB.out⟩
  subst h1
  have hok : SM.Ok fs := hE1.symm
  have h48 := hok.all48
  have HG1 := Lib.hid (fun w' (ht : Tb w') (hh : RdF w' (.slice ad fs.length cp) fs) (hg : RdF w' (.slice bd l.length bp) l) => gMerge _ _ fs l w' ht hh hg hok (by omega) hfit.n)
  have HG2 := Lib.hid (fun w' (hh : RdF w' (.slice ad fs.length cp) fs) (hg : RdF w' (.slice bd l.length bp) l) => rMerge _ _ fs l w' hh hg hok (by omega))
  have hm := SM.mrg_ok hok l
  generalize SM.mrg fs l = R at HG1 HG2 hm
  obtain ⟨T, A, B⟩ := R
  obtain ⟨m1, m2, m3, m4, m5⟩ := hm
  simp only at m1 m2 m3 m4
  have ha : (A == A) = true := beq_t rfl
  have hb : (B == B) = true := beq_t rfl
  have hT48 := m1.all48
  have hw1 : IntKind.i64.wrap ((fs.length : Int) + A) = (fs.length : Int) + A := IntWalk.i64_in _ (by omega)
  have hln : ((T.length : Int) == (fs.length : Int) + A) = true := beq_t m3
  have HM1 := Lib.hid m1
  have HM2 := Lib.hid m2
  clear hE1 hok m1 m2 m3 m5 hfit
  have HB := Lib.hid (Below.refl w.heap.size w)
  go_enter Tryd.func8, Tryd.ntmps8
  have hC := kShort _ _ w HF.out
  rw [decide_eq_true hs60] at hC
  have HC := Lib.hid hC
  clear hC
  go_wp2_with fail
  refine HC.out.mono ?_
  rintro e w1 ⟨rfl, hb⟩
  replace HF := Lib.hid (HF.out.below hb)
  replace HV := Lib.hid (HV.out.below hb)
  replace HT := Lib.hid (HT.out.below hb)
  replace HB := Lib.hid (bnext HB.out hb)
  clear hb HC
  have hC := H1.out w1 HF.out
  have HC := Lib.hid hC
  clear hC
  go_wp2_with fail
  refine HC.out.mono ?_
  rintro e w2 ⟨rfl, hb⟩
  replace HF := Lib.hid (HF.out.below hb)
  replace HV := Lib.hid (HV.out.below hb)
  replace HT := Lib.hid (HT.out.below hb)
  replace HB := Lib.hid (bnext HB.out hb)
  clear hb HC
  have hC := HG1.out w2 HT.out HF.out HV.out
  have HC := Lib.hid hC
  clear hC
  go_wp2_with fail
  refine HC.out.mono ?_
  rintro e w3 ⟨vR1, rfl, hr, hb⟩
  replace HF := Lib.hid (HF.out.below hb)
  replace HV := Lib.hid (HV.out.below hb)
  replace HT := Lib.hid (HT.out.below hb)
  replace HB := Lib.hid (bnext HB.out hb)
  have R1 := Lib.hid hr
  obtain ⟨a1, c1, rfl, _, _⟩ := R1.out.shape
  clear hb HC hr
  have hC := HG2.out w3 HF.out HV.out
  have HC := Lib.hid hC
  clear hC
  go_wp2_with fail
  refine HC.out.mono ?_
  rintro e w4 ⟨vR2, rfl, hr, hb⟩
  replace HF := Lib.hid (HF.out.below hb)
  replace HV := Lib.hid (HV.out.below hb)
  replace HT := Lib.hid (HT.out.below hb)
  replace R1 := Lib.hid (R1.out.below hb)
  replace HB := Lib.hid (bnext HB.out hb)
  have R2 := Lib.hid hr
  clear hb HC hr
  have hC := rEqualState _ _ _ _ w4 R1.out R2.out
  rw [decide_eq_true rfl] at hC
  have HC := Lib.hid hC
  clear hC
  go_wp2_with fail
  refine HC.out.mono ?_
  rintro e w5 ⟨rfl, hb⟩
  clear R2
  replace HF := Lib.hid (HF.out.below hb)
  replace HV := Lib.hid (HV.out.below hb)
  replace HT := Lib.hid (HT.out.below hb)
  replace R1 := Lib.hid (R1.out.below hb)
  replace HB := Lib.hid (bnext HB.out hb)
  clear hb HC
  have hC := gValidate _ _ w5 HT.out (fitN_ok HM1.out.all) R1.out
  rw [show SM.errL (0, 0) T = 0 from HM1.out] at hC
  have HC := Lib.hid hC
  clear hC
  go_wp2_with fail
  refine HC.out.mono ?_
  rintro e w6 ⟨rfl, hb⟩
  replace HF := Lib.hid (HF.out.below hb)
  replace HV := Lib.hid (HV.out.below hb)
  replace HT := Lib.hid (HT.out.below hb)
  replace R1 := Lib.hid (R1.out.below hb)
  replace HB := Lib.hid (bnext HB.out hb)
  clear hb HC
  have hC := oContains _ _ _ _ w6 R1.out HF.out HM1.out
  rw [HM2.out] at hC
  have HC := Lib.hid hC
  clear hC
  go_wp2_with fail
  refine HC.out.mono ?_
  rintro e w7 ⟨rfl, hb⟩
  replace HF := Lib.hid (HF.out.below hb)
  replace HV := Lib.hid (HV.out.below hb)
  replace HT := Lib.hid (HT.out.below hb)
  replace R1 := Lib.hid (R1.out.below hb)
  replace HB := Lib.hid (bnext HB.out hb)
  clear hb HC
  have hC := cAwake12 w7 HT.out
  have HC := Lib.hid hC
  clear hC
  go_wp2_with fail
  refine HC.out.mono ?_
  rintro e w8 ⟨rfl, hb⟩
  replace HF := Lib.hid (HF.out.below hb)
  replace HV := Lib.hid (HV.out.below hb)
  replace HT := Lib.hid (HT.out.below hb)
  replace R1 := Lib.hid (R1.out.below hb)
  replace HB := Lib.hid (bnext HB.out hb)
  clear hb HC
  go_wp2
  go_ret
  exact ⟨rfl, HB.out⟩

end Go.Proofs.YtohcmbdlcnhlfaaDoor.ST
