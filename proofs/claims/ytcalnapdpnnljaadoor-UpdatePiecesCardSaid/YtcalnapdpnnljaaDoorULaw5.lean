/-
  The call of the law UpdatePieces: it returns true. Conditions: what UCon's structure says of the program's calls; the list of numbers reads; its length is at most 2^62; the cut is below 2^16.
-/
import Derived.Test.YtcalnapdpnnljaaDoorUCon
import Derived.Test.YtcalnapdpnnljaaDoorUPool
namespace Go.Proofs.YtcalnapdpnnljaaDoor
open Go.RowKit
open UM (Ef)

/-- The updates with their effects. -/
abbrev Fu := Int × Int × Int × List Ef
def encFu (f : Fu) : List Int := UM.encU f.1 f.2.1 f.2.2.1 f.2.2.2
def encFus (fs : List Fu) : List Int := fs.flatMap encFu
theorem encFus_cons (f : Fu) (fs : List Fu) : encFus (f :: fs) = encFu f ++ encFus fs := List.flatMap_cons
theorem encFus_snoc (fs : List Fu) (f : Fu) : encFus (fs ++ [f]) = encFus fs ++ encFu f := by unfold encFus; rw [List.flatMap_append]; simp
/-- What q says, with the effects that it leads to. -/
def TellsU (w : World) (q : Up) (f : Fu) : Prop := q.1 = f.1 ∧ q.2.1 = f.2.1 ∧ q.2.2.1 = f.2.2.1 ∧ RdEf w (.slice q.2.2.2.1 q.2.2.2.2.1 q.2.2.2.2.2) f.2.2.2 ∧ UM.errU f.1 f.2.1 f.2.2.1 f.2.2.2 = 0 ∧ ∀ e ∈ f.2.2.2, EfFit e
theorem TellsU.below {w w' : World} {q : Up} {f : Fu} (h : TellsU w q f) (hb : Below w.heap.size w w') : TellsU w' q f := ⟨h.1, h.2.1, h.2.2.1, h.2.2.2.1.below hb, h.2.2.2.2⟩
def AllTellU (w : World) (qs : List Up) (fs : List Fu) : Prop := fs.length = qs.length ∧ ∀ (i : Nat) (q : Up) (f : Fu), qs[i]? = some q → fs[i]? = some f → TellsU w q f
theorem AllTellU.below {w w' : World} {qs : List Up} {fs : List Fu} (h : AllTellU w qs fs) (hb : Below w.heap.size w w') : AllTellU w' qs fs := ⟨h.1, fun i q f h1 h2 => (h.2 i q f h1 h2).below hb⟩
theorem fit_ok {c q t : Int} {es : List Ef} (h : UM.errU c q t es = 0) (hr : ∀ e ∈ es, UM.in64 e) : ∀ e ∈ es, EfFit e := by
  intro e he
  obtain ⟨k, o, f, n, s⟩ := e
  obtain ⟨_, _, _, _, _, _, _, h8⟩ := UM.errU_ok h
  obtain ⟨g1, g2, g3, g4, g5⟩ := UM.errE_ok (h8 _ he)
  refine ⟨hr _ he, ?_, ?_, ?_⟩ <;> (dsimp only; unfold maxLen; omega)
theorem tellU_all {base : Nat} {w : World} : ∀ {qs : List Up}, (∀ q ∈ qs, GoodU base w q) → ∃ fs, AllTellU w qs fs
  | [], _ => ⟨[], rfl, fun i q f h => by simp at h⟩
  | q :: qs, h => by
    obtain ⟨fs, h1, h2⟩ := tellU_all (fun q hq => h q (List.mem_cons_of_mem _ hq))
    obtain ⟨es, h3, h4, h5⟩ := h q (List.mem_cons_self ..)
    refine ⟨(q.1, q.2.1, q.2.2.1, es) :: fs, by simp [h1], fun i q' f hq hf => ?_⟩
    cases i with
    | zero =>
      rw [List.getElem?_cons_zero] at hq hf
      injection hq with hq
      injection hf with hf
      subst hq hf
      exact ⟨rfl, rfl, rfl, h3.rd, h4, fit_ok h4 h5⟩
    | succ i => exact h2 i q' f (by rwa [List.getElem?_cons_succ] at hq) (by rwa [List.getElem?_cons_succ] at hf)
theorem encFu_len {f : Fu} (h : UM.errU f.1 f.2.1 f.2.2.1 f.2.2.2 = 0) (hr : ∀ e ∈ f.2.2.2, EfFit e) : (encFu f).length ≤ 840 ∧ 0 < (encFu f).length :=
  ⟨UM.encU_len h fun e he => (hr e he).1, UM.encU_pos _ _ _ _⟩
theorem encFus_len {fs : List Fu} (h : ∀ f ∈ fs, (encFu f).length ≤ 840) : (encFus fs).length ≤ fs.length * 840 := by
  induction fs with
  | nil => simp [encFus]
  | cons f fs ih =>
    rw [encFus_cons, List.length_append, List.length_cons]
    have := h f (List.mem_cons_self ..)
    have := ih (fun g hg => h g (List.mem_cons_of_mem _ hg))
    omega
theorem takeU_snoc {fs : List Fu} {k : Nat} {f : Fu} (h : fs[k]? = some f) : fs.take (k + 1) = fs.take k ++ [f] := by
  have hlt : k < fs.length := (List.getElem?_eq_some_iff.1 h).1
  rw [← List.take_append_getElem hlt, (List.getElem?_eq_some_iff.1 h).2]
theorem dropU_at {fs : List Fu} {k : Nat} {f : Fu} (h : fs[k]? = some f) : encFus (fs.drop k) = encFu f ++ encFus (fs.drop (k + 1)) := by
  have hlt : k < fs.length := (List.getElem?_eq_some_iff.1 h).1
  rw [drop_get hlt, encFus_cons, (List.getElem?_eq_some_iff.1 h).2]
theorem fus_split (fs : List Fu) (k : Nat) : encFus (fs.take k) ++ encFus (fs.drop k) = encFus fs := by
  unfold encFus
  rw [← List.flatMap_append, List.take_append_drop]

set_option maxRecDepth 100000 in
set_option maxHeartbeats 8000000 in
theorem lUpdatePieces (H : UC) (v : Value) (l : List Int) (cut : Nat) (w : World) (hT : Tb w) (h : RdI w v l) (hl : l.length ≤ 4611686018427387904) (hcut : cut < 65536) :
    Calls Tryd.prog 9 #[v, .int .u16 (cut : Int)] w fun e w' => e = .returned (.bool true) ∧ Below w.heap.size w w' := by
  have HP := Lib.hid (kUpdates v l w h hl)
  obtain ⟨ad, cp, rfl, _, _⟩ := h.shape
  have HCUT := Lib.hid hcut
  have HAW := Lib.hid (cAwake11 H)
  have HTB := Lib.hid hT
  clear hT
  clear h hl
  go_enter Tryd.func9, Tryd.ntmps9
  go_wp2_with fail
  refine HP.out.mono ?_
  rintro e w1 ⟨uv1, qs, rfl, hoq, hgd, hq9, hb1⟩
  obtain ⟨fs, hfs⟩ := tellU_all hgd
  obtain ⟨ua, uc, rfl, _, _⟩ := hoq.rd.shape
  have hfl : fs.length = qs.length := hfs.1
  have hval : ∀ f ∈ fs, UM.errU f.1 f.2.1 f.2.2.1 f.2.2.2 = 0 ∧ ∀ e ∈ f.2.2.2, EfFit e := by
    intro f hf
    obtain ⟨i, hi, hfi⟩ := List.getElem_of_mem hf
    have h1 : fs[i]? = some f := by rw [List.getElem?_eq_getElem hi, hfi]
    have h2 : qs[i]? = some (qs[i]'(by omega)) := List.getElem?_eq_getElem (by omega)
    exact (hfs.2 i _ f h2 h1).2.2.2.2
  have hlen : ∀ k, (encFus (fs.take k)).length ≤ 100000 := by
    intro k
    have := encFus_len (fs := fs.take k) (fun f hf => (encFu_len (hval f (List.mem_of_mem_take hf)).1 (hval f (List.mem_of_mem_take hf)).2).1)
    rw [List.length_take] at this
    omega
  have HQ := Lib.hid (show RdUp w1 (.slice ua qs.length uc) qs from hoq.rd)
  have HF := Lib.hid hfs
  have HLEN := Lib.hid hlen
  have HB1 := Lib.hid hb1
  have HFL := Lib.hid hfl
  obtain ⟨QL, hQL⟩ : ∃ QL, QL = qs.length := ⟨_, rfl⟩
  rw [← hQL] at HQ hq9 HFL ⊢
  have HQL := Lib.hid hQL
  clear hoq hgd hb1 hfs hval hlen hfl HP hQL
  go_wp2
  go_loopw [6, 7] (fun b i wr => ∃ (k : Nat), k ≤ QL ∧ i = .int .i64 k ∧ Hid (Rd wr b (encFus (fs.take k))) ∧ Hid (Below w1.heap.size w1 wr)) (fun _ i _ => QL - (intOf i).toNat)
  case atStart => exact ⟨0, Nat.zero_le _, rfl, (by show Rd _ _ _; rw [List.take_zero]; exact Rd.nil _), Below.refl _ _⟩
  case round =>
    obtain ⟨k, hk, rfl, hr, hb⟩ := hrel
    by_cases hlt : k < QL
    · have hq : (k : Int) < (QL : Int) := by omega
      have hkq : k < qs.length := by rw [← HQL.out]; exact hlt
      have hkf : k < fs.length := by rw [HFL.out]; exact hlt
      obtain ⟨⟨x, n, t, pa, pl, pc⟩, hqk⟩ : ∃ q, qs[k]? = some q := ⟨_, List.getElem?_eq_getElem hkq⟩
      obtain ⟨f, hfk⟩ : ∃ f, fs[k]? = some f := ⟨_, List.getElem?_eq_getElem hkf⟩
      obtain ⟨t1, t2, t3, t4, t5, t6⟩ := (HF.out.below hb.out).2 k _ f hqk hfk
      obtain ⟨fa, fn, ft, fes⟩ := f
      simp only at t1 t2 t3 t4 t5 t6
      subst t1 t2 t3
      obtain ⟨bq, oq, hi, _, c0, c1, c2, c3⟩ := atUp (HQ.out.below hb.out) k _ _ _ _ _ _ hqk
      have hap := H.app _ _ x n t (.slice pa pl pc) fes wr hr.out t4 t5 t6 (by have := HLEN.out k; omega)
      have HSN := Lib.hid (show encFus (fs.take (k + 1)) = encFus (fs.take k) ++ UM.encU x n t fes by rw [takeU_snoc hfk, encFus_snoc]; rfl)
      have HAP := Lib.hid hap
      clear hap t4 t5 t6 hqk hfk hkq hkf
      go_wp2_with fail
      refine HAP.out.mono ?_
      rintro e w2 ⟨v2, rfl, ho2, hb2⟩
      have HR2 := Lib.hid (show Rd w2 v2 (encFus (fs.take (k + 1))) by rw [HSN.out]; exact ho2)
      have HB2 := Lib.hid (bnext hb.out hb2)
      clear ho2 hb2 HAP HSN hr hb c0 c1 c2 c3 hi
      go_wp2
      go_roundw
      case rel => exact ⟨k + 1, by omega, by go_num, HR2, HB2⟩
      case measure => simp [intOf]; omega
    · have hq : ¬ (k : Int) < (QL : Int) := by omega
      obtain rfl : k = QL := by omega
      have hall : fs.take k = fs := List.take_of_length_le (by rw [HFL.out]; exact Nat.le_refl _)
      have hle := HLEN.out k
      rw [hall] at hr hle
      obtain ⟨ba, bc, hbv, hbcm⟩ := hr.out.shape
      subst hbv
      obtain ⟨E, hE⟩ : ∃ E, E = encFus fs := ⟨_, rfl⟩
      rw [← hE] at hr hle ⊢
      have HE := Lib.hid hE
      have HR := Lib.hid hr.out
      have HBB := Lib.hid hb.out
      obtain ⟨wo, hwo⟩ : ∃ wo, wo = wr := ⟨wr, rfl⟩
      rw [← hwo] at HR HBB ⊢
      clear hr hb hall hE hwo hk hlt hq
      go_wp2
      go_loopw [8, 9] (fun at_ i wr => ∃ (m a1 : Nat), m ≤ k ∧ i = .int .i64 m ∧ at_ = .int .i64 (a1 : Int) ∧ Hid (a1 = (encFus (fs.take m)).length) ∧ Hid (Below wo.heap.size wo wr)) (fun _ i _ => k - (intOf i).toNat)
      case atStart => exact ⟨0, 0, Nat.zero_le _, rfl, rfl, (by show _ = _; simp [encFus]), Below.refl _ _⟩
      case round =>
        obtain ⟨m, a1, hm, rfl, rfl, ha1, hb⟩ := hrel
        by_cases hlt : m < k
        · have hq : (m : Int) < (k : Int) := by omega
          have hkq : m < qs.length := by rw [← HQL.out]; exact hlt
          have hkf : m < fs.length := by rw [HFL.out]; exact hlt
          obtain ⟨⟨x, n, t, pa, pl, pc⟩, hqk⟩ : ∃ q, qs[m]? = some q := ⟨_, List.getElem?_eq_getElem hkq⟩
          obtain ⟨f, hfk⟩ : ∃ f, fs[m]? = some f := ⟨_, List.getElem?_eq_getElem hkf⟩
          have hBr := bnext HBB.out hb.out
          obtain ⟨t1, t2, t3, t4, t5, t6⟩ := (HF.out.below hBr).2 m _ f hqk hfk
          obtain ⟨fa, fn, ft, fes⟩ := f
          simp only at t1 t2 t3 t4 t5 t6
          subst t1 t2 t3
          obtain ⟨bq, oq, hi, _, c0, c1, c2, c3⟩ := atUp (HQ.out.below hBr) m _ _ _ _ _ _ hqk
          have h64 : ∀ e ∈ fes, UM.in64 e := fun e he => (t6 e he).1
          have hsplit : E = encFus (fs.take m) ++ (UM.encU x n t fes ++ encFus (fs.drop (m + 1))) := by rw [HE.out, ← fus_split fs m, dropU_at hfk]; rfl
          have hdrop : E.drop a1 = UM.encU x n t fes ++ encFus (fs.drop (m + 1)) := by rw [ha1.out, hsplit]; exact List.drop_left
          have hlen1 : a1 + (UM.encU x n t fes).length ≤ E.length := by rw [ha1.out, hsplit]; simp only [List.length_append]; omega
          have hpos := UM.encU_pos x n t fes
          have hnext : a1 + (UM.encU x n t fes).length = (encFus (fs.take (m + 1))).length := by rw [takeU_snoc hfk, encFus_snoc, List.length_append, ha1.out]; rfl
          have hEr : Rd wr (.slice ba E.length bc) E := HR.out.below hb.out
          have hE9 : E.length ≤ 100000 := hle
          obtain ⟨v2, hcutL, hrd2⟩ := hEr.cutL a1 (by omega)
          rw [hdrop] at hrd2
          have hd1 := H.dec v2 _ wr ((HTB.out.below HB1.out).below hBr) hrd2
          rw [UM.decU_enc t5 h64 (encFus (fs.drop (m + 1)))] at hd1
          obtain ⟨r, hr⟩ : ∃ r, r = cut % (UM.encU x n t fes).length := ⟨_, rfl⟩
          have hrl : r < (UM.encU x n t fes).length := by rw [hr]; exact Nat.mod_lt _ hpos
          have hrem : ((cut : Int)).tmod ((UM.encU x n t fes).length : Int) = (r : Int) := by
            rw [Int.tmod_eq_emod_of_nonneg (by omega), hr]; exact (Int.natCast_emod cut _).symm
          obtain ⟨v3, -, hcut2o, hrd3⟩ := hEr.cut a1 (a1 + r) (by omega) (by omega)
          rw [hdrop, Nat.add_sub_cancel_left, List.take_append_of_le_length (by omega)] at hrd3
          have hcut2 : ∀ w0 : World, (Instr.slice 36 (.slice ba E.length bc) (some (.int .i64 (a1 : Int))) (some (.int .i64 ((a1 : Int) + (r : Int)))) none).run Tryd.prog w0 = .ok v3 w0 := fun w0 => by
            rw [show (a1 : Int) + (r : Int) = ((a1 + r : Nat) : Int) by omega]; exact hcut2o w0
          have HD2 := Lib.hid (fun w1 (ht : Tb w1) h1 => (show Calls Tryd.prog 25 #[v3] w1 fun e w' => ∃ sv, e = .returned (.tuple #[uv 0 0 0 sv, .int .i64 0, .int .i64 1]) ∧ RdEf w' sv [] ∧ Below w1.heap.size w1 w' from by
            have := H.dec v3 ((UM.encU x n t fes).take r) w1 ht h1
            rw [UM.decU_cut t5 h64 r hrl] at this
            exact this))
          have HD1 := Lib.hid hd1
          have HR3 := Lib.hid hrd3
          have HNX := Lib.hid hnext
          have HT := Lib.hid t4
          have HCB : Hid ((cut : Int) < 65536) := by have := HCUT.out; show (cut : Int) < 65536; omega
          clear hcut2o hd1 hrd3 hnext t4 t5 t6 h64 hqk hfk hkq hkf hsplit hdrop hrd2 hr hEr
          generalize (UM.encU x n t fes).length = L at HD1 hlen1 hpos hrl hrem HNX
          have hw1 : IntKind.i64.wrap (r : Int) = (r : Int) := IntWalk.i64_in _ (by omega)
          have hL0 : ¬ (L : Int) = 0 := by omega
          have hL1 : ¬ (L : Int) < 1 := by omega
          have hL2 : ¬ (E.length : Int) - (a1 : Int) < (L : Int) := by omega
          have hcb := HCB.out
          have hLa : (0 : Int) < (L : Int) := by omega
          have hLb : (1 : Int) ≤ (L : Int) := by omega
          have hLc : decide ((L : Int) < 1) = false := decide_eq_false hL1
          have hLd : (L : Int) ≤ (E.length : Int) - (a1 : Int) := by omega
          have hLe : decide ((E.length : Int) - (a1 : Int) < (L : Int)) = false := decide_eq_false hL2
          have hLf : IntKind.i64.wrap ((E.length : Int) - (a1 : Int)) = (E.length : Int) - (a1 : Int) := IntWalk.i64_in _ (by omega)
          go_wp2_with fail
          refine HD1.out.mono ?_
          rintro e w2 ⟨sv, rfl, hs, hb2⟩
          obtain ⟨a4, c4, rfl, _, _⟩ := hs.shape
          have hf := below_fresh w2 (.cells #[.int .i64 x, .int .i64 n, .int .i64 t, .slice a4 fes.length c4] 30)
          have hpb := OU.fresh w2 x n t (.slice a4 fes.length c4)
          obtain ⟨w4, hw4⟩ : ∃ w4, w2.alloc (.cells #[.int .i64 x, .int .i64 n, .int .i64 t, .slice a4 fes.length c4] 30) = w4 := ⟨_, rfl⟩
          rw [hw4] at hf hpb
          have HW4 := Lib.hid hw4
          have HB4 := Lib.hid (bnext hb2 hf)
          have HS4 := Lib.hid (hs.below hf)
          have HP4 := Lib.hid hpb
          have HT4 := Lib.hid (HT.out.below HB4.out)
          have HR4 := Lib.hid (HR3.out.below HB4.out)
          have HBW := Lib.hid (bnext hb.out HB4.out)
          have d0 := below_cell HB4.out c0
          have d1 := below_cell HB4.out c1
          have d2 := below_cell HB4.out c2
          have d3 := below_cell HB4.out c3
          clear hs hb2 hf hpb hw4 c0 c1 c2 c3 HD1 hb
          have k0 : ∀ p : Later w4, p.val.cell? ⟨bq, oq, none⟩ = some (.int .i64 x) := fun p => below_cell p.h d0
          have k1 : ∀ p : Later w4, p.val.cell? ⟨bq, oq + 1, none⟩ = some (.int .i64 n) := fun p => below_cell p.h d1
          have k2 : ∀ p : Later w4, p.val.cell? ⟨bq, oq + 2, none⟩ = some (.int .i64 t) := fun p => below_cell p.h d2
          have k3 : ∀ p : Later w4, p.val.cell? ⟨bq, oq + 3, none⟩ = some (.slice pa pl pc) := fun p => below_cell p.h d3
          have p0 : ∀ p : Later w4, p.val.cell? ⟨w2.heap.size, 0, none⟩ = some (.int .i64 x) := fun p => (HP4.out.below p.h).cells.1
          have p1 : ∀ p : Later w4, p.val.cell? ⟨w2.heap.size, 1, none⟩ = some (.int .i64 n) := fun p => (HP4.out.below p.h).cells.2.1
          have p2 : ∀ p : Later w4, p.val.cell? ⟨w2.heap.size, 2, none⟩ = some (.int .i64 t) := fun p => (HP4.out.below p.h).cells.2.2.1
          have p3 : ∀ p : Later w4, p.val.cell? ⟨w2.heap.size, 3, none⟩ = some (.slice a4 fes.length c4) := fun p => (HP4.out.below p.h).cells.2.2.2.1
          have CE : Hid (∀ p : Later w4, Calls Tryd.prog 23 #[uv x n t (.slice a4 fes.length c4), uv x n t (.slice pa pl pc)] p.val fun e w'' => e = .returned (.bool true) ∧ ∃ q : Later w4, w'' = q.val) := fun p => Calls.later (by
            have := rEqU x n t (.slice a4 fes.length c4) fes x n t (.slice pa pl pc) fes p.val (HS4.out.below p.h) (HT4.out.below p.h)
            rw [UM.eqU_self] at this
            exact this)
          go_wp2
          rw [HW4.out]
          clear d0 d1 d2 d3
          refine wp_region_later (by kernel_rfl) (by kernel_rfl) ?_
          repeat (go_big_quiet_step (first | (go_at_call 23; with_reducible exact CE.out _)))
          refine wpQuiet_nil ?_
          rintro _ ⟨p, rfl⟩
          have HR5 := Lib.hid (HR4.out.below p.h)
          have HB5 := Lib.hid (bnext HBW.out p.h)
          clear k0 k1 k2 k3 p0 p1 p2 p3 CE HS4 HP4 HT4 HR4 HBW HB4 HW4 hL1 hL2 hLa hLb hLc hLd hLe hLf
          obtain ⟨w5, hw5⟩ : ∃ w5, w5 = p.val := ⟨_, rfl⟩
          rw [← hw5] at HR5 HB5 ⊢
          clear hw5
          go_wp2_with fail
          refine (HD2.out _ (((HTB.out.below HB1.out).below HBB.out).below HB5.out) HR5.out).mono ?_
          rintro e w6 ⟨sv, rfl, hs, hb6⟩
          obtain ⟨a6, c6, rfl, _, _⟩ := hs.shape
          have HB7 := Lib.hid (bnext HB5.out (bnext hb6 (below_fresh w6 (.cells #[.int .i64 0, .int .i64 0, .int .i64 0, .slice a6 ([] : List Ef).length c6] 30))))
          clear hs hb6 HR5 HB5 HD2
          go_wp2
          go_roundw
          case rel => exact ⟨m + 1, a1 + L, by omega, by go_num, by go_num, HNX, HB7⟩
          case measure => simp [intOf]; omega
        · have hq : ¬ (m : Int) < (k : Int) := by omega
          obtain rfl : m = k := by omega
          have ha2 : a1 = E.length := by rw [ha1.out, HE.out, List.take_of_length_le (by rw [HFL.out]; exact Nat.le_refl _)]
          have heq : ((a1 : Int) == (E.length : Int)) = true := by rw [ha2]; simp
          clear ha1 ha2
          go_wp2_with fail
          refine (HAW.out _ (((HTB.out.below HB1.out).below HBB.out).below hb.out)).mono ?_
          rintro e w9 ⟨rfl, hb9⟩
          go_wp2
          go_ret
          exact ⟨rfl, bnext HB1.out (bnext HBB.out (bnext hb.out hb9))⟩

end Go.Proofs.YtcalnapdpnnljaaDoor
