/-
  The call of the law ProposalPieces: true. Conditions: the list of numbers reads; its length is at most 2^62; the cut is below 2^16.
-/
import Derived.Test.YthljcenejglcpaaJPool
import Derived.Test.YthljcenejglcpaaJAwake
namespace Go.Proofs.Ythljcenejglcpaa
open Go.RowKit
open JM (Chg)

theorem atQ {w : World} {a : Option Addr} {n c : Nat} {xs : List Pro} (h : RdQ w (.slice a n c) xs) (i : Nat) (x n' : Int) (ad : Option Addr) (l cp : Nat) (hk : xs[i]? = some (x, n', ad, l, cp)) :
    ∃ b o, (∀ w0, (Instr.indexAt 47 (.slice a n c) (.int .i64 (i : Int))).run Try.prog w0 = .ok (.pointer (some ⟨b, o, none⟩)) w0) ∧ b < w.heap.size ∧
      w.cell? ⟨b, o, none⟩ = some (.int .i64 x) ∧ w.cell? ⟨b, o + 1, none⟩ = some (.int .i64 n') ∧ w.cell? ⟨b, o + 2, none⟩ = some (.slice ad l cp) := by
  obtain ⟨b, o, h1, h2, h3⟩ := h.at_ proE i _ hk
  exact ⟨b, o, h1, h2, h3 0 _ rfl, h3 1 _ rfl, h3 2 _ rfl⟩

/-- The proposals with their changes. -/
abbrev Full := Int × Int × List Chg
def encF (f : Full) : List Int := JM.encP f.1 f.2.1 f.2.2
def encFs (fs : List Full) : List Int := fs.flatMap encF
theorem encFs_cons (f : Full) (fs : List Full) : encFs (f :: fs) = encF f ++ encFs fs := List.flatMap_cons
theorem encFs_snoc (fs : List Full) (f : Full) : encFs (fs ++ [f]) = encFs fs ++ encF f := by unfold encFs; rw [List.flatMap_append]; simp
/-- What q says, with the changes that it leads to. -/
def Tells (w : World) (q : Pro) (f : Full) : Prop := q.1 = f.1 ∧ q.2.1 = f.2.1 ∧ RdC w (.slice q.2.2.1 q.2.2.2.1 q.2.2.2.2) f.2.2 ∧ JM.errP f.1 f.2.1 f.2.2 = 0
theorem Tells.below {w w' : World} {q : Pro} {f : Full} (h : Tells w q f) (hb : Below w.heap.size w w') : Tells w' q f := ⟨h.1, h.2.1, h.2.2.1.below hb, h.2.2.2⟩
def AllTell (w : World) (qs : List Pro) (fs : List Full) : Prop := fs.length = qs.length ∧ ∀ (i : Nat) (q : Pro) (f : Full), qs[i]? = some q → fs[i]? = some f → Tells w q f
theorem AllTell.below {w w' : World} {qs : List Pro} {fs : List Full} (h : AllTell w qs fs) (hb : Below w.heap.size w w') : AllTell w' qs fs := ⟨h.1, fun i q f h1 h2 => (h.2 i q f h1 h2).below hb⟩
theorem tell_all {base : Nat} {w : World} : ∀ {qs : List Pro}, (∀ q ∈ qs, Good base w q) → ∃ fs, AllTell w qs fs
  | [], _ => ⟨[], rfl, fun i q f h => by simp at h⟩
  | q :: qs, h => by
    obtain ⟨fs, h1, h2⟩ := tell_all (fun q hq => h q (List.mem_cons_of_mem _ hq))
    obtain ⟨cs, h3, h4⟩ := h q (by simp)
    refine ⟨(q.1, q.2.1, cs) :: fs, by simp [h1], fun i q' f hq hf => ?_⟩
    cases i with
    | zero =>
      simp at hq hf
      subst hq hf
      exact ⟨rfl, rfl, h3.rd, h4⟩
    | succ i => exact h2 i q' f (by simpa using hq) (by simpa using hf)
theorem encF_len {f : Full} (h : JM.errP f.1 f.2.1 f.2.2 = 0) : (encF f).length ≤ 450 ∧ 0 < (encF f).length := by
  have hsm := JM.errP_small h
  have h1 := JM.encN_len _ (JM.head_small h)
  have h2 := JM.encCs_len f.2.2 hsm.2.2.2.2
  have h3 := hsm.2.2.1
  refine ⟨?_, JM.encP_pos _ _ _⟩
  unfold encF JM.encP
  rw [List.length_append]
  simp only [List.length_cons, List.length_nil] at h1
  omega
theorem encFs_len {fs : List Full} (h : ∀ f ∈ fs, (encF f).length ≤ 450) : (encFs fs).length ≤ fs.length * 450 := by
  induction fs with
  | nil => simp [encFs]
  | cons f fs ih =>
    rw [encFs_cons, List.length_append, List.length_cons]
    have := h f (by simp)
    have := ih (fun g hg => h g (by simp [hg]))
    omega
theorem take_snoc {fs : List Full} {k : Nat} {f : Full} (h : fs[k]? = some f) : fs.take (k + 1) = fs.take k ++ [f] := by
  have hlt : k < fs.length := (List.getElem?_eq_some_iff.1 h).1
  rw [← List.take_append_getElem hlt, (List.getElem?_eq_some_iff.1 h).2]
theorem drop_at {fs : List Full} {k : Nat} {f : Full} (h : fs[k]? = some f) : encFs (fs.drop k) = encF f ++ encFs (fs.drop (k + 1)) := by
  have hlt : k < fs.length := (List.getElem?_eq_some_iff.1 h).1
  rw [drop_get hlt, encFs_cons, (List.getElem?_eq_some_iff.1 h).2]
theorem fs_split (fs : List Full) (k : Nat) : encFs (fs.take k) ++ encFs (fs.drop k) = encFs fs := by
  unfold encFs
  rw [← List.flatMap_append, List.take_append_drop]

set_option maxRecDepth 100000 in
set_option maxHeartbeats 4000000 in
theorem lProposalPieces (v : Value) (l : List Int) (cut : Nat) (w : World) (h : RdI w v l) (hl : l.length ≤ 4611686018427387904) (hcut : cut < 65536) :
    Calls Try.prog 9 #[v, .int .u16 (cut : Int)] w fun e w' => e = .returned (.bool true) ∧ Below w.heap.size w w' := by
  have HP := Lib.hid (kPool v l w h hl)
  obtain ⟨ad, cp, rfl, _, _⟩ := h.shape
  have HCUT := Lib.hid hcut
  have HAW := Lib.hid cAwake
  clear h hl
  go_enter Try.func9, Try.ntmps9
  go_wp2_with fail
  refine HP.out.mono ?_
  rintro e w1 ⟨uv, qs, rfl, hoq, hgd, hq9, hb1⟩
  obtain ⟨fs, hfs⟩ := tell_all hgd
  obtain ⟨ua, uc, rfl, _, _⟩ := hoq.rd.shape
  have hfl : fs.length = qs.length := hfs.1
  have hval : ∀ f ∈ fs, JM.errP f.1 f.2.1 f.2.2 = 0 := by
    intro f hf
    obtain ⟨i, hi, hfi⟩ := List.getElem_of_mem hf
    have h1 : fs[i]? = some f := by rw [List.getElem?_eq_getElem hi, hfi]
    have h2 : qs[i]? = some (qs[i]'(by omega)) := List.getElem?_eq_getElem (by omega)
    exact (hfs.2 i _ f h2 h1).2.2.2
  have hlen : ∀ k, (encFs (fs.take k)).length ≤ 10000 := by
    intro k
    have := encFs_len (fs := fs.take k) (fun f hf => (encF_len (hval f (List.mem_of_mem_take hf))).1)
    rw [List.length_take] at this
    omega
  have HQ := Lib.hid (show RdQ w1 (.slice ua qs.length uc) qs from hoq.rd)
  have HF := Lib.hid hfs
  have HVAL := Lib.hid hval
  have HLEN := Lib.hid hlen
  have HB1 := Lib.hid hb1
  have HFL := Lib.hid hfl
  obtain ⟨QL, hQL⟩ : ∃ QL, QL = qs.length := ⟨_, rfl⟩
  rw [← hQL] at HQ hq9 HFL ⊢
  have HQL := Lib.hid hQL
  clear hoq hgd hb1 hfs hval hlen hfl HP hQL
  go_wp2
  go_loopw [6, 7] (fun b i wr => ∃ (k : Nat), k ≤ QL ∧ i = .int .i64 k ∧ Hid (Rd wr b (encFs (fs.take k))) ∧ Hid (Below w1.heap.size w1 wr)) (fun _ i _ => QL - (intOf i).toNat)
  case atStart => exact ⟨0, Nat.zero_le _, rfl, (by show Rd _ _ _; rw [List.take_zero]; exact Rd.nil _), Below.refl _ _⟩
  case round =>
    obtain ⟨k, hk, rfl, hr, hb⟩ := hrel
    by_cases hlt : k < QL
    · have hq : (k : Int) < (QL : Int) := by omega
      have hkq : k < qs.length := by rw [← HQL.out]; exact hlt
      have hkf : k < fs.length := by rw [HFL.out]; exact hlt
      obtain ⟨⟨x, n, pa, pl, pc⟩, hqk⟩ : ∃ q, qs[k]? = some q := ⟨_, List.getElem?_eq_getElem hkq⟩
      obtain ⟨f, hfk⟩ : ∃ f, fs[k]? = some f := ⟨_, List.getElem?_eq_getElem hkf⟩
      obtain ⟨t1, t2, t3, t4⟩ := (HF.out.below hb.out).2 k _ f hqk hfk
      obtain ⟨fa, fn, fcs⟩ := f
      simp only at t1 t2 t3 t4
      subst t1 t2
      obtain ⟨bq, oq, hi, _, c0, c1, c2⟩ := atQ (HQ.out.below hb.out) k _ _ _ _ _ hqk
      have hap := cAppend _ _ x n (.slice pa pl pc) fcs wr hr.out t3 t4 (by have := HLEN.out k; omega)
      have HSN := Lib.hid (show encFs (fs.take (k + 1)) = encFs (fs.take k) ++ JM.encP x n fcs by rw [take_snoc hfk, encFs_snoc]; rfl)
      have HAP := Lib.hid hap
      clear hap t3 t4 hqk hfk hkq hkf
      go_wp2_with fail
      refine HAP.out.mono ?_
      rintro e w2 ⟨v2, rfl, ho2, hb2⟩
      have HR2 := Lib.hid (show Rd w2 v2 (encFs (fs.take (k + 1))) by rw [HSN.out]; exact ho2.rd)
      have HB2 := Lib.hid (bnext hb.out hb2)
      clear ho2 hb2 HAP HSN hr hb c0 c1 c2 hi
      go_wp2
      go_roundw
      case rel => exact ⟨k + 1, by omega, by go_num, HR2, HB2⟩
      case measure => simp [intOf]; omega
    · have hq : ¬ (k : Int) < (QL : Int) := by omega
      obtain rfl : k = QL := by omega
      have hall : fs.take k = fs := List.take_of_length_le (by rw [HFL.out]; exact Nat.le_refl _)
      have hle := HLEN.out k
      rw [hall] at hr hle
      obtain ⟨ba, bc, hbv, hbcm⟩ := hr.out.shape
      subst hbv
      obtain ⟨E, hE⟩ : ∃ E, E = encFs fs := ⟨_, rfl⟩
      rw [← hE] at hr hle ⊢
      have HE := Lib.hid hE
      have HR := Lib.hid hr.out
      have HBB := Lib.hid hb.out
      obtain ⟨wo, hwo⟩ : ∃ wo, wo = wr := ⟨wr, rfl⟩
      rw [← hwo] at HR HBB ⊢
      clear hr hb hall hE hwo hk hlt hq
      go_wp2
      go_loopw [8, 9] (fun at_ i wr => ∃ (m a1 : Nat), m ≤ k ∧ i = .int .i64 m ∧ at_ = .int .i64 (a1 : Int) ∧ Hid (a1 = (encFs (fs.take m)).length) ∧ Hid (Below wo.heap.size wo wr)) (fun _ i _ => k - (intOf i).toNat)
      case atStart => exact ⟨0, 0, Nat.zero_le _, rfl, rfl, (by show _ = _; simp [encFs]), Below.refl _ _⟩
      case round =>
        obtain ⟨m, a1, hm, rfl, rfl, ha1, hb⟩ := hrel
        by_cases hlt : m < k
        · have hq : (m : Int) < (k : Int) := by omega
          have hkq : m < qs.length := by rw [← HQL.out]; exact hlt
          have hkf : m < fs.length := by rw [HFL.out]; exact hlt
          obtain ⟨⟨x, n, pa, pl, pc⟩, hqk⟩ : ∃ q, qs[m]? = some q := ⟨_, List.getElem?_eq_getElem hkq⟩
          obtain ⟨f, hfk⟩ : ∃ f, fs[m]? = some f := ⟨_, List.getElem?_eq_getElem hkf⟩
          have hBr := bnext HBB.out hb.out
          obtain ⟨t1, t2, t3, t4⟩ := (HF.out.below hBr).2 m _ f hqk hfk
          obtain ⟨fa, fn, fcs⟩ := f
          simp only at t1 t2 t3 t4
          subst t1 t2
          obtain ⟨bq, oq, hi, _, c0, c1, c2⟩ := atQ (HQ.out.below hBr) m _ _ _ _ _ hqk
          have hsplit : E = encFs (fs.take m) ++ (JM.encP x n fcs ++ encFs (fs.drop (m + 1))) := by rw [HE.out, ← fs_split fs m, drop_at hfk]; rfl
          have hdrop : E.drop a1 = JM.encP x n fcs ++ encFs (fs.drop (m + 1)) := by rw [ha1.out, hsplit]; exact List.drop_left
          have hlen1 : a1 + (JM.encP x n fcs).length ≤ E.length := by rw [ha1.out, hsplit]; simp only [List.length_append]; omega
          have hpos := JM.encP_pos x n fcs
          have hnext : a1 + (JM.encP x n fcs).length = (encFs (fs.take (m + 1))).length := by rw [take_snoc hfk, encFs_snoc, List.length_append, ha1.out]; rfl
          have hEr : Rd wr (.slice ba E.length bc) E := HR.out.below hb.out
          have hE9 : E.length ≤ 10000 := hle
          obtain ⟨v2, hcutL, hrd2⟩ := hEr.cutL a1 (by omega)
          rw [hdrop] at hrd2
          have hd1 := cDecode v2 _ wr hrd2
          rw [JM.decP_enc t4 (encFs (fs.drop (m + 1)))] at hd1
          obtain ⟨r, hr⟩ : ∃ r, r = cut % (JM.encP x n fcs).length := ⟨_, rfl⟩
          have hrl : r < (JM.encP x n fcs).length := by rw [hr]; exact Nat.mod_lt _ hpos
          have hrem : ((cut : Int)).tmod ((JM.encP x n fcs).length : Int) = (r : Int) := by
            rw [Int.tmod_eq_emod_of_nonneg (by omega), hr]; exact (Int.natCast_emod cut _).symm
          obtain ⟨v3, -, hcut2o, hrd3⟩ := hEr.cut a1 (a1 + r) (by omega) (by omega)
          rw [hdrop, Nat.add_sub_cancel_left, List.take_append_of_le_length (by omega)] at hrd3
          have hcut2 : ∀ w0 : World, (Instr.slice 38 (.slice ba E.length bc) (some (.int .i64 (a1 : Int))) (some (.int .i64 ((a1 : Int) + (r : Int)))) none).run Try.prog w0 = .ok v3 w0 := fun w0 => by
            rw [show (a1 : Int) + (r : Int) = ((a1 + r : Nat) : Int) by omega]; exact hcut2o w0
          have HD2 := Lib.hid (fun w1 h1 => (show Calls Try.prog 20 #[v3] w1 fun e w' => ∃ sv, e = .returned (.tuple #[pv 0 0 sv, .int .i64 0, .int .i64 1]) ∧ RdC w' sv [] ∧ Below w1.heap.size w1 w' from by
            have := cDecode v3 ((JM.encP x n fcs).take r) w1 h1
            rw [JM.decP_cut t4 r hrl] at this
            exact this))
          have HD1 := Lib.hid hd1
          have HR3 := Lib.hid hrd3
          have HNX := Lib.hid hnext
          have HT := Lib.hid t3
          have HCB : Hid ((cut : Int) < 65536) := by have := HCUT.out; show (cut : Int) < 65536; omega
          clear hcut2o hd1 hrd3 hnext t3 t4 hqk hfk hkq hkf hsplit hdrop hrd2 hr hEr
          generalize (JM.encP x n fcs).length = L at HD1 hlen1 hpos hrl hrem HNX
          have hw1 : IntKind.i64.wrap (r : Int) = (r : Int) := IntWalk.i64_in _ (by omega)
          have hL0 : ¬ (L : Int) = 0 := by omega
          have hL1 : ¬ (L : Int) < 1 := by omega
          have hL2 : ¬ (E.length : Int) - (a1 : Int) < (L : Int) := by omega
          have hcb := HCB.out
          have hLa : (0 : Int) < (L : Int) := by omega
          have hLb : (1 : Int) ≤ (L : Int) := by omega
          have hLc : decide ((L : Int) < 1) = false := decide_eq_false hL1
          have hLd : (L : Int) ≤ (E.length : Int) - (a1 : Int) := by omega
          have hLe : decide ((E.length : Int) - (a1 : Int) < (L : Int)) = false := decide_eq_false hL2
          have hLf : IntKind.i64.wrap ((E.length : Int) - (a1 : Int)) = (E.length : Int) - (a1 : Int) := IntWalk.i64_in _ (by omega)
          go_wp2_with fail
          refine HD1.out.mono ?_
          rintro e w2 ⟨sv, rfl, hs, hb2⟩
          obtain ⟨a4, c4, rfl, _, _⟩ := hs.shape
          have hf := below_fresh w2 (.cells #[.int .i64 x, .int .i64 n, .slice a4 fcs.length c4] 32)
          have hpb := PBox.fresh w2 x n (.slice a4 fcs.length c4)
          obtain ⟨w4, hw4⟩ : ∃ w4, w2.alloc (.cells #[.int .i64 x, .int .i64 n, .slice a4 fcs.length c4] 32) = w4 := ⟨_, rfl⟩
          rw [hw4] at hf hpb
          have HW4 := Lib.hid hw4
          have HB4 := Lib.hid (bnext hb2 hf)
          have HS4 := Lib.hid (hs.below hf)
          have HP4 := Lib.hid hpb
          have HT4 := Lib.hid (HT.out.below HB4.out)
          have HR4 := Lib.hid (HR3.out.below HB4.out)
          have HBW := Lib.hid (bnext hb.out HB4.out)
          have d0 := below_cell HB4.out c0
          have d1 := below_cell HB4.out c1
          have d2 := below_cell HB4.out c2
          clear hs hb2 hf hpb hw4 c0 c1 c2 HD1 hb
          have k0 : ∀ p : Later w4, p.val.cell? ⟨bq, oq, none⟩ = some (.int .i64 x) := fun p => below_cell p.h d0
          have k1 : ∀ p : Later w4, p.val.cell? ⟨bq, oq + 1, none⟩ = some (.int .i64 n) := fun p => below_cell p.h d1
          have k2 : ∀ p : Later w4, p.val.cell? ⟨bq, oq + 2, none⟩ = some (.slice pa pl pc) := fun p => below_cell p.h d2
          have p0 : ∀ p : Later w4, p.val.cell? ⟨w2.heap.size, 0, none⟩ = some (.int .i64 x) := fun p => (HP4.out.below p.h).1
          have p1 : ∀ p : Later w4, p.val.cell? ⟨w2.heap.size, 1, none⟩ = some (.int .i64 n) := fun p => (HP4.out.below p.h).2.1
          have p2 : ∀ p : Later w4, p.val.cell? ⟨w2.heap.size, 2, none⟩ = some (.slice a4 fcs.length c4) := fun p => (HP4.out.below p.h).2.2
          have CE : Hid (∀ p : Later w4, Calls Try.prog 18 #[pv x n (.slice a4 fcs.length c4), pv x n (.slice pa pl pc)] p.val fun e w'' => e = .returned (.bool true) ∧ ∃ q : Later w4, w'' = q.val) := fun p => Calls.later (by
            have := rEqual x n (.slice a4 fcs.length c4) fcs x n (.slice pa pl pc) fcs p.val (HS4.out.below p.h) (HT4.out.below p.h)
            rw [show eqP x n fcs x n fcs = true from decide_eq_true ⟨rfl, rfl, rfl⟩] at this
            exact this)
          go_wp2
          rw [HW4.out]
          clear d0 d1 d2
          refine wp_region_later (by kernel_rfl) (by kernel_rfl) ?_
          repeat (go_big_quiet_step (first | (go_at_call 18; with_reducible exact CE.out _)))
          refine wpQuiet_nil ?_
          rintro _ ⟨p, rfl⟩
          have HR5 := Lib.hid (HR4.out.below p.h)
          have HB5 := Lib.hid (bnext HBW.out p.h)
          clear k0 k1 k2 p0 p1 p2 CE HS4 HP4 HT4 HR4 HBW HB4 HW4 hL1 hL2 hLa hLb hLc hLd hLe hLf
          obtain ⟨w5, hw5⟩ : ∃ w5, w5 = p.val := ⟨_, rfl⟩
          rw [← hw5] at HR5 HB5 ⊢
          clear hw5
          go_wp2_with fail
          refine (HD2.out _ HR5.out).mono ?_
          rintro e w6 ⟨sv, rfl, hs, hb6⟩
          obtain ⟨a6, c6, rfl, _, _⟩ := hs.shape
          have HB7 := Lib.hid (bnext HB5.out (bnext hb6 (below_fresh w6 (.cells #[.int .i64 0, .int .i64 0, .slice a6 ([] : List Chg).length c6] 32))))
          clear hs hb6 HR5 HB5 HD2
          go_wp2
          go_roundw
          case rel => exact ⟨m + 1, a1 + L, by omega, by go_num, by go_num, HNX, HB7⟩
          case measure => simp [intOf]; omega
        · have hq : ¬ (m : Int) < (k : Int) := by omega
          obtain rfl : m = k := by omega
          have ha2 : a1 = E.length := by rw [ha1.out, HE.out, List.take_of_length_le (by rw [HFL.out]; exact Nat.le_refl _)]
          have heq : ((a1 : Int) == (E.length : Int)) = true := by rw [ha2]; simp
          clear ha1 ha2
          go_wp2_with fail
          refine (HAW.out _).mono ?_
          rintro e w9 ⟨rfl, hb9⟩
          go_wp2
          go_ret
          exact ⟨rfl, bnext HB1.out (bnext HBB.out (bnext hb.out hb9))⟩

end Go.Proofs.Ythljcenejglcpaa
