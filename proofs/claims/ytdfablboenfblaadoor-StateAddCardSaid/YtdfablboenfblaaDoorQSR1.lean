/-
  States whose effects are the call's own; boxes of updates. No conditions beyond those that each lemma names. (Written by mk_sref.py.)
  The call of the reference's ValidateState. Conditions: the state reads. (Written by mk_sref.py.)
  The call of the reference's Union. Conditions: both states read and are of bounded length. (Written by mk_sref.py.)
  The calls of the reference's has, Contains, EqualState, of slices.EqualFunc over states and of state.Equal. Conditions: the states read. (Written by mk_sref.py.)
  Where an identifier is, or would be. No conditions beyond those that each lemma names. (Written by mk_sref.py.)
-/
import Derived.Test.YtdfablboenfblaaDoorQSBase
import Derived.Test.YtdfablboenfblaaDoorQUR
import Derived.Test.YtdfablboenfblaaDoorQUV
import Derived.Test.YtdfablboenfblaaDoorQKG
import Derived.Test.YtdfablboenfblaaDoorQKH
import Derived.Test.YtdfablboenfblaaDoorQSM1
import Derived.Test.YtdfablboenfblaaDoorQUC
namespace Go.Proofs.YtdfablboenfblaaDoor.ST
open Go.RowKit Go.Joins
open UM (Ef)
open SM (Fp)

/-- The cells of an update's box. -/
def UBox (w : World) (g : Nat) (a n t : Int) (sv : Value) : Prop := w.cell? ⟨g, 0, none⟩ = some (.int .i64 a) ∧ w.cell? ⟨g, 1, none⟩ = some (.int .i64 n) ∧ w.cell? ⟨g, 2, none⟩ = some (.int .i64 t) ∧ w.cell? ⟨g, 3, none⟩ = some sv
theorem UBox.fresh (w : World) (a n t : Int) (sv : Value) : UBox (w.alloc (.cells #[.int .i64 a, .int .i64 n, .int .i64 t, sv] 43)) w.heap.size a n t sv := by
  exact ubox (heap_alloc_new w _)
theorem UBox.below {w w' : World} {g : Nat} {a n t : Int} {sv : Value} (h : UBox w g a n t sv) (hb : Below w.heap.size w w') : UBox w' g a n t sv := ⟨below_cell hb h.1, below_cell hb h.2.1, below_cell hb h.2.2.1, below_cell hb h.2.2.2⟩
theorem rCmpS (x m t : Int) (ua : Option Addr) (ul uc : Nat) (y n u : Int) (va : Option Addr) (vl vc : Nat) (w : World) :
    Calls Tryd.prog 45 #[uv x m t (.slice ua ul uc), uv y n u (.slice va vl vc)] w fun e w' => e = .returned (.int .i64 (UM.cmpU x m y n)) ∧ Below w.heap.size w w' :=
  rCmpU x m t _ y n u _ w ⟨_, _, _, rfl⟩ ⟨_, _, _, rfl⟩
theorem rCompareL {w : World} (x m t : Int) (ua : Option Addr) (ul uc : Nat) (y n u : Int) (va : Option Addr) (vl vc : Nat) (p : Later w) :
    Calls Tryd.prog 45 #[uv x m t (.slice ua ul uc), uv y n u (.slice va vl vc)] p.val fun e w'' => e = .returned (.int .i64 (UM.cmpU x m y n)) ∧ ∃ q : Later w, w'' = q.val :=
  Calls.later (rCmpS x m t ua ul uc y n u va vl vc p.val)
/-- The effects' names fit into memory. -/
def FitN (fs : List Fp) : Prop := ∀ f ∈ fs, ∀ e ∈ f.2.2.2, NmFit e
/-- Proposals whose changes are the call's own. -/
def TelO (base : Nat) (w : World) : List Up → List Fp → Prop
  | [], [] => True
  | q :: qs, f :: fs => (q.1 = f.1 ∧ q.2.1 = f.2.1 ∧ q.2.2.1 = f.2.2.1 ∧ OwnEf base w (sl q) f.2.2.2) ∧ TelO base w qs fs
  | _, _ => False
theorem TelO.below {base : Nat} {w w' : World} (hb : Below w.heap.size w w') : ∀ {qs : List Up} {fs : List Fp}, TelO base w qs fs → TelO base w' qs fs
  | [], [], _ => trivial
  | _ :: _, _ :: _, h => ⟨⟨h.1.1, h.1.2.1, h.1.2.2.1, h.1.2.2.2.below hb⟩, TelO.below hb h.2⟩
  | [], _ :: _, h => h.elim
  | _ :: _, [], h => h.elim
theorem TelO.keep {base : Nat} {w w' : World} (hk : KeepsX 43 w w') : ∀ {qs : List Up} {fs : List Fp}, TelO base w qs fs → TelO base w' qs fs
  | [], [], _ => trivial
  | _ :: _, _ :: _, h => ⟨⟨h.1.1, h.1.2.1, h.1.2.2.1, ownG_keep h.1.2.2.2 hk (by decide)⟩, TelO.keep hk h.2⟩
  | [], _ :: _, h => h.elim
  | _ :: _, [], h => h.elim
theorem TelO.rd {base : Nat} {w : World} : ∀ {qs : List Up} {fs : List Fp}, TelO base w qs fs → Tel w qs fs
  | [], [], _ => trivial
  | _ :: _, _ :: _, h => ⟨⟨h.1.1, h.1.2.1, h.1.2.2.1, h.1.2.2.2.rd⟩, TelO.rd h.2⟩
  | [], _ :: _, h => h.elim
  | _ :: _, [], h => h.elim
theorem TelO.snoc {base : Nat} {w : World} {q : Up} {f : Fp} (k : q.1 = f.1 ∧ q.2.1 = f.2.1 ∧ q.2.2.1 = f.2.2.1 ∧ OwnEf base w (sl q) f.2.2.2) : ∀ {qs : List Up} {fs : List Fp}, TelO base w qs fs → TelO base w (qs ++ [q]) (fs ++ [f])
  | [], [], _ => ⟨k, trivial⟩
  | _ :: _, _ :: _, h => ⟨h.1, TelO.snoc k h.2⟩
  | [], _ :: _, h => h.elim
  | _ :: _, [], h => h.elim
theorem TelO.mono {base b2 : Nat} {w : World} (hle : b2 ≤ base) : ∀ {qs : List Up} {fs : List Fp}, TelO base w qs fs → TelO b2 w qs fs
  | [], [], _ => trivial
  | _ :: _, _ :: _, h => ⟨⟨h.1.1, h.1.2.1, h.1.2.2.1, h.1.2.2.2.mono hle⟩, TelO.mono hle h.2⟩
  | [], _ :: _, h => h.elim
  | _ :: _, [], h => h.elim
theorem take_snocF {fs : List Fp} {k : Nat} {f : Fp} (h : fs[k]? = some f) : fs.take (k + 1) = fs.take k ++ [f] := by
  have hlt : k < fs.length := (List.getElem?_eq_some_iff.1 h).1
  rw [← List.take_append_getElem hlt, (List.getElem?_eq_some_iff.1 h).2]
theorem set_mid {ns r : List Up} {q y : Up} {k : Nat} (h : ns.length = k) : (ns ++ (q :: r)).set k y = (ns ++ [y]) ++ r := by
  subst h
  rw [List.set_append_right _ _ (Nat.le_refl _), Nat.sub_self, List.set_cons_zero, List.append_assoc]; rfl

end Go.Proofs.YtdfablboenfblaaDoor.ST

namespace Go.Proofs.YtdfablboenfblaaDoor.ST
open Go.RowKit Go.Joins
open UM (Ef)
open SM (Fp)

theorem errL_step (pr : Int × Int) (f : Fp) (r : List Fp) : SM.errL pr (f :: r) =
    if SM.errF f ≠ 0 then SM.errF f else if UM.cmpU f.1 f.2.1 pr.1 pr.2 ≤ 0 then 7 else if 1 < f.2.1 ∧ ¬ (pr.1 = f.1 ∧ pr.2 = f.2.1 - 1) then 8 else SM.errL (f.1, f.2.1) r := by
  rw [SM.errL]

/-- The identifier ahead of place k. -/
def pre (fs : List Fp) (k : Nat) : Int × Int := if k = 0 then (0, 0) else ((fs.getD (k - 1) (0, 0, 0, [])).1, (fs.getD (k - 1) (0, 0, 0, [])).2.1)
theorem pre_succ {fs : List Fp} {k : Nat} {f : Fp} (h : fs[k]? = some f) : pre fs (k + 1) = (f.1, f.2.1) := by simp [pre, List.getD, h]

set_option maxRecDepth 100000 in
set_option maxHeartbeats 4000000 in
theorem rValidateS (v : Value) (fs : List Fp) (w : World) (h : RdF w v fs) :
    Calls Tryd.prog 15 #[v] w fun e w' => e = .returned (.int .i64 (SM.errL (0, 0) fs)) ∧ Below w.heap.size w w' := by
  obtain ⟨ad, c, rfl, hc, hl⟩ := h.shape
  obtain ⟨R, hR⟩ : ∃ R, R = SM.errL (0, 0) fs := ⟨_, rfl⟩
  rw [← hR]
  have H := Lib.hid h
  have HR := Lib.hid hR
  clear h hR
  go_enter Tryd.func15, Tryd.ntmps15
  go_wp2
  go_loopw [3] (fun i wr => ∃ (k : Nat), k ≤ fs.length ∧ i = .int .i64 k ∧ Below w.heap.size w wr ∧ Hid (R = SM.errL (pre fs k) (fs.drop k))) (fun i _ => fs.length - (intOf i).toNat)
  case atStart => exact ⟨0, Nat.zero_le _, rfl, Below.refl _ _, HR.out⟩
  case round =>
    obtain ⟨k, hk, rfl, hbl, he⟩ := hrel
    clear HR
    by_cases hlt : k < fs.length
    · have hq : (k : Int) < (fs.length : Int) := by omega
      have hd := Lib.hid (drop_get hlt)
      have hk2 := List.getElem?_eq_getElem hlt
      have hp := Lib.hid (pre_succ hk2)
      generalize fs[k] = f at hd hk2 hp
      obtain ⟨x, m, t, cs⟩ := f
      obtain ⟨b, o, da, dl, dc, hi, hb, c0, c1, c2, c3, hrd⟩ := (H.out.below hbl).at_ k x m t cs hk2
      have e1 := Lib.hid (he.out.trans ((congrArg (SM.errL (pre fs k)) hd.out).trans (errL_step _ _ _)))
      have e2 : Hid (R = if UM.errU x m t cs ≠ 0 then UM.errU x m t cs else if UM.cmpU x m (pre fs k).1 (pre fs k).2 ≤ 0 then 7 else if 1 < m ∧ ¬ ((pre fs k).1 = x ∧ (pre fs k).2 = m - 1) then 8 else SM.errL (x, m) (fs.drop (k + 1))) := e1.out
      have hp' : Hid (pre fs (k + 1) = (x, m)) := hp.out
      have HN := Lib.hid (fun h => SM.errF_num (f := (x, m, t, cs)) h)
      have HV := Lib.hid (rValU x m t (.slice da dl dc) cs _ hrd)
      clear hk2 he hd e1 hp hrd
      by_cases hE : UM.errU x m t cs = 0
      · obtain ⟨n1, n2, n3, n4⟩ := HN.out hE
        simp only at n1 n2 n3 n4
        rw [hE] at HV
        have e3 := Lib.hid (e2.out.trans (if_neg (by rw [hE]; simp)))
        clear e2 hE HN
        go_wp2_with fail
        refine HV.out.mono ?_
        rintro e w1 ⟨rfl, hb1⟩
        have d0 := below_cell hb1 c0
        have d1 := below_cell hb1 c1
        have d2 := below_cell hb1 c2
        have d3 := below_cell hb1 c3
        have HB1 := Lib.hid (bnext hbl hb1)
        clear c0 c1 c2 c3 HV hb1 hbl
        by_cases h0 : k = 0
        · subst h0
          have hi0 : ∀ w0 : World, (Instr.indexAt 23 (.slice ad fs.length c) (.int .i64 0)).run Tryd.prog w0 = .ok (.pointer (some ⟨b, o, none⟩)) w0 := hi
          have hq0 : (0 : Int) < (fs.length : Int) := hq
          have e4 := Lib.hid (e3.out.trans (if_neg (by show ¬ UM.cmpU x m 0 0 ≤ 0; have := (@SM.cmpP_pos x m 0 0).2 (by omega); omega)))
          clear e3 hi hq
          by_cases hm : 1 < m
          · have e5 := Lib.hid (e4.out.trans (if_pos ⟨hm, by show ¬ ((0 : Int) = x ∧ _); omega⟩))
            clear e4
            go_wp2
            go_quiet (fail)
            go_wp2
            go_quiet (fail)
            go_wp2
            go_ret
            rw [e5.out]
            exact ⟨rfl, (HB1.out.trans (below_drewN _ _ _)).trans (below_drewN _ _ _)⟩
          · have e5 := Lib.hid (e4.out.trans (if_neg (fun h => hm h.1)))
            have hm' : decide (1 < m) = false := decide_eq_false hm
            clear e4
            go_wp2
            go_quiet (fail)
            go_wp2
            go_quiet (fail)
            go_wp2
            go_roundw
            case rel => exact ⟨0 + 1, by omega, by go_num, HB1.out.trans (below_drewN _ _ _), by rw [hp'.out]; exact e5⟩
            case measure => simp [intOf]; omega
        · have hk1 : (0 : Int) < (k : Int) := by omega
          have hk2 : 0 < k := by omega
          have hk0 : ((k : Int) == 0) = false := beq_f (by omega)
          have hkl : k - 1 < fs.length := by omega
          have hg2 := List.getElem?_eq_getElem hkl
          have hpk : pre fs k = (fs[k - 1].1, fs[k - 1].2.1) := by simp [pre, h0, List.getD, List.getElem?_eq_getElem hkl]
          generalize fs[k - 1] = g at hg2 hpk
          obtain ⟨y, n, u, ds⟩ := g
          simp only at hpk
          rw [hpk] at e3
          obtain ⟨b2, o2, ea, el, ec, hi2, hb2, f0, f1, f2, f3, hrd2⟩ := (H.out.below HB1.out).at_ (k - 1) y n u ds hg2
          rw [show ((k - 1 : Nat) : Int) = (k : Int) - 1 by omega] at hi2
          have hC := fun p : Later w1 => rCompareL y n u ea el ec x m t da dl dc p
          have hcn := SM.cmpU_neg y n x m
          simp only at e3
          clear hg2 hpk hrd2
          have k0 : ∀ p : Later w1, p.val.cell? ⟨b, o, none⟩ = some (.int .i64 x) := fun p => below_cell p.h d0
          have k1 : ∀ p : Later w1, p.val.cell? ⟨b, o + 1, none⟩ = some (.int .i64 m) := fun p => below_cell p.h d1
          have k2 : ∀ p : Later w1, p.val.cell? ⟨b, o + 2, none⟩ = some (.int .i64 t) := fun p => below_cell p.h d2
          have k3 : ∀ p : Later w1, p.val.cell? ⟨b, o + 3, none⟩ = some (.slice da dl dc) := fun p => below_cell p.h d3
          have j0 : ∀ p : Later w1, p.val.cell? ⟨b2, o2, none⟩ = some (.int .i64 y) := fun p => below_cell p.h f0
          have j1 : ∀ p : Later w1, p.val.cell? ⟨b2, o2 + 1, none⟩ = some (.int .i64 n) := fun p => below_cell p.h f1
          have j2 : ∀ p : Later w1, p.val.cell? ⟨b2, o2 + 2, none⟩ = some (.int .i64 u) := fun p => below_cell p.h f2
          have j3 : ∀ p : Later w1, p.val.cell? ⟨b2, o2 + 3, none⟩ = some (.slice ea el ec) := fun p => below_cell p.h f3
          by_cases hcl : UM.cmpU x m y n ≤ 0
          · have e4 := Lib.hid (e3.out.trans (if_pos hcl))
            have hge : 0 ≤ UM.cmpU y n x m := by omega
            generalize UM.cmpU y n x m = C at hC hge
            have HC := Lib.hid hC
            clear e3 hcl hcn hC d0 d1 d2 d3 f0 f1 f2 f3
            go_wp2
            refine wp_region_later (by kernel_rfl) (by kernel_rfl) ?_
            repeat (go_big_quiet_step (first | (go_at_call 45; with_reducible exact HC.out _)))
            refine wpQuiet_nil ?_
            rintro _ ⟨p, rfl⟩
            have HB2 := Lib.hid (bnext HB1.out p.h)
            generalize p.val = w2 at HB2 ⊢
            go_wp2
            go_ret
            rw [e4.out]
            exact ⟨rfl, HB2.out⟩
          · have e4 := Lib.hid (e3.out.trans (if_neg hcl))
            have hge : ¬ 0 ≤ UM.cmpU y n x m := by omega
            generalize UM.cmpU y n x m = C at hC hge
            have HC := Lib.hid hC
            clear e3 hcl hcn hC
            go_wp2
            refine wp_region_later (by kernel_rfl) (by kernel_rfl) ?_
            repeat (go_big_quiet_step (first | (go_at_call 45; with_reducible exact HC.out _)))
            refine wpQuiet_nil ?_
            rintro _ ⟨p, rfl⟩
            have HB2 := Lib.hid (bnext HB1.out p.h)
            have x0 := below_cell p.h d0
            have x1 := below_cell p.h d1
            have y0 := below_cell p.h f0
            have y1 := below_cell p.h f1
            clear k0 k1 k2 k3 j0 j1 j2 j3 d0 d1 d2 d3 f0 f1 f2 f3 HC HB1
            obtain ⟨w2, hw2⟩ : ∃ w2, w2 = p.val := ⟨_, rfl⟩
            rw [← hw2] at HB2 x0 x1 y0 y1 ⊢
            clear hw2
            have hw1 : IntKind.i64.wrap (m - 1) = m - 1 := IntWalk.i64_in _ (by omega)
            by_cases hm : 1 < m
            · by_cases hyx : y = x
              · have q1 : (y != x) = false := bne_f hyx
                by_cases hnm : n = m - 1
                · have q2 : (n != m - 1) = false := bne_f hnm
                  have e5 := Lib.hid (e4.out.trans (if_neg (fun h => h.2 ⟨hyx, hnm⟩)))
                  clear e4 hyx hnm
                  go_wp2
                  go_quiet (fail)
                  go_wp2
                  go_roundw
                  case rel => exact ⟨k + 1, by omega, by go_num, HB2.out.trans (below_drewN _ _ _), by rw [hp'.out]; exact e5⟩
                  case measure => simp [intOf]; omega
                · have q2 : (n != m - 1) = true := bne_t hnm
                  have e5 := Lib.hid (e4.out.trans (if_pos ⟨hm, fun h => hnm h.2⟩))
                  clear e4 hyx hnm
                  go_wp2
                  go_quiet (fail)
                  go_wp2
                  go_ret
                  rw [e5.out]
                  exact ⟨rfl, HB2.out.trans (below_drewN _ _ _)⟩
              · have q1 : (y != x) = true := bne_t hyx
                have e5 := Lib.hid (e4.out.trans (if_pos ⟨hm, fun h => hyx h.1⟩))
                clear e4 hyx
                go_wp2
                go_quiet (fail)
                go_wp2
                go_ret
                rw [e5.out]
                exact ⟨rfl, HB2.out.trans (below_drewN _ _ _)⟩
            · have e5 := Lib.hid (e4.out.trans (if_neg (fun h => hm h.1)))
              have hm' : decide (1 < m) = false := decide_eq_false hm
              clear e4
              go_wp2
              go_quiet (fail)
              go_wp2
              go_roundw
              case rel => exact ⟨k + 1, by omega, by go_num, HB2.out.trans (below_drewN _ _ _), by rw [hp'.out]; exact e5⟩
              case measure => simp [intOf]; omega
      · have e3 := Lib.hid (e2.out.trans (if_pos hE))
        have hne : (UM.errU x m t cs != 0) = true := bne_t hE
        generalize UM.errU x m t cs = E at HV e3 hne
        clear e2 hE HN
        go_wp2_with fail
        refine HV.out.mono ?_
        rintro e w1 ⟨rfl, hb1⟩
        go_wp2
        go_ret
        rw [e3.out]
        exact ⟨rfl, bnext hbl hb1⟩
    · have hq : ¬ ((k : Int) < (fs.length : Int)) := by omega
      have e2 := Lib.hid (show R = 0 by rw [he.out, List.drop_of_length_le (by omega)]; rfl)
      clear he
      go_wp2
      go_ret
      rw [e2.out]
      exact ⟨rfl, hbl⟩

end Go.Proofs.YtdfablboenfblaaDoor.ST

namespace Go.Proofs.YtdfablboenfblaaDoor.ST
open Go.RowKit Go.Joins
open UM (Ef)
open SM (Fp)

/-- One more proposal in the call's own list. -/
theorem OwnF.snoc {w0 w' : World} {base : Nat} {v' : Value} {qs : List Up} {fs : List Fp} {q : Up} {f : Fp} (h : OwnUp base w' v' (qs ++ [q])) (ht : Tel w0 qs fs) (k : Tell1 w0 q f) : OwnF w0 base w' v' (fs ++ [f]) :=
  ⟨_, h, Tel.app ht (Tel.one k)⟩
theorem all_len {l : List Fp} (h : ∀ f ∈ l, SM.errF f = 0) : ∀ f ∈ l, f.2.2.2.length ≤ 1073741824 := fun f hf => by
  have := (UM.errU_ok (h f hf)).2.2.2.2.2.2.1
  omega

theorem OwnF.out {w0 w : World} {base : Nat} {v : Value} {fs : List Fp} (h : OwnF w0 base w v fs) : ∃ qs, OwnUp base w v qs ∧ Tel w0 qs fs ∧ qs.length = fs.length := by
  obtain ⟨qs, h1, h2⟩ := h
  exact ⟨qs, h1, h2, h2.len⟩

set_option maxRecDepth 100000 in
set_option maxHeartbeats 4000000 in
theorem rUnion (va vb : Value) (xs ys : List Fp) (w : World) (ha : RdF w va xs) (hb : RdF w vb ys) (hlx : xs.length ≤ 1000) (hly : ys.length ≤ 1000) :
    Calls Tryd.prog 25 #[va, vb] w fun e w' => ∃ v', e = .returned v' ∧ RdF w' v' (SM.un xs ys) ∧ Below w.heap.size w w' := by
  obtain ⟨aa, ac, rfl, hac, _⟩ := ha.shape
  obtain ⟨ba, bc, rfl, hbc, _⟩ := hb.shape
  obtain ⟨R, hR⟩ : ∃ R, R = SM.un xs ys := ⟨_, rfl⟩
  rw [← hR]
  have HA := Lib.hid ha
  have HB := Lib.hid hb
  have HR := Lib.hid hR
  clear ha hb hR
  go_enter Tryd.func25, Tryd.ntmps25
  go_wp2
  go_loopw [5, 6, 7] (fun u i j wr => ∃ (k n : Nat) (U : List Fp), k ≤ xs.length ∧ n ≤ ys.length ∧ i = .int .i64 k ∧ j = .int .i64 n ∧ Hid (OwnF w w.heap.size wr u U) ∧ Hid (R = U ++ SM.un (xs.drop k) (ys.drop n)) ∧ U.length ≤ k + n ∧ Hid (Below w.heap.size w wr)) (fun _ i j _ => xs.length + ys.length - (intOf i).toNat - (intOf j).toNat)
  case atStart => exact ⟨0, 0, [], Nat.zero_le _, Nat.zero_le _, rfl, rfl, OwnF.nil _ _ _, HR.out, Nat.zero_le _, Below.refl _ _⟩
  case round =>
    obtain ⟨k, n, U, hk, hn, rfl, rfl, hU, he, hul, hbl⟩ := hrel
    clear HR
    obtain ⟨uq, hu1, hu2, hu3⟩ := hU.out.out
    have hlu : uq.length ≤ 1073741824 := by omega
    have HTU := Lib.hid hu2
    have hsz := hbl.out.size
    clear hu2 hu3 hU
    by_cases hx : k < xs.length
    · have hqx : (k : Int) < (xs.length : Int) := by omega
      have hex : ((k : Int) == (xs.length : Int)) = false := beq_f (by omega)
      have hdx := drop_get hx
      have hkx := List.getElem?_eq_getElem hx
      generalize xs[k] = f at hdx hkx
      obtain ⟨x, m, t, cs⟩ := f
      obtain ⟨b, o, da, dl, dc, hi, hbw, c0, c1, c2, c3, hrd⟩ := HA.out.at_ k x m t cs hkx
      have HT1 := Lib.hid (show Tell1 w (x, m, t, da, dl, dc) (x, m, t, cs) from ⟨rfl, rfl, rfl, hrd⟩)
      have c0 := below_cell hbl.out c0
      have c1 := below_cell hbl.out c1
      have c2 := below_cell hbl.out c2
      have c3 := below_cell hbl.out c3
      have hbw : b < wr.heap.size := Nat.lt_of_lt_of_le hbw hbl.out.size
      clear hkx hrd
      by_cases hy : n < ys.length
      · have hqy : (n : Int) < (ys.length : Int) := by omega
        have hey : ((n : Int) == (ys.length : Int)) = false := beq_f (by omega)
        have hdy := drop_get hy
        have hky := List.getElem?_eq_getElem hy
        generalize ys[n] = f at hdy hky
        obtain ⟨y, l, u, ds⟩ := f
        obtain ⟨b2, o2, ea, el, ec, hi2, hbw2, f0, f1, f2, f3, hrd2⟩ := HB.out.at_ n y l u ds hky
        have HT2 := Lib.hid (show Tell1 w (y, l, u, ea, el, ec) (y, l, u, ds) from ⟨rfl, rfl, rfl, hrd2⟩)
        have f0 := below_cell hbl.out f0
        have f1 := below_cell hbl.out f1
        have f2 := below_cell hbl.out f2
        have f3 := below_cell hbl.out f3
        have hbw2 : b2 < wr.heap.size := Nat.lt_of_lt_of_le hbw2 hbl.out.size
        have e1 := he.out
        rw [hdx, hdy, SM.un_cons] at e1
        simp only at e1
        have hCG := fun w1 (p : Later w1) => rCompareL x m t da dl dc y l u ea el ec p
        have hdx' : Hid (xs.drop k = (x, m, t, cs) :: xs.drop (k + 1)) := hdx
        have hdy' : Hid (ys.drop n = (y, l, u, ds) :: ys.drop (n + 1)) := hdy
        generalize UM.cmpU x m y l = C at e1 hCG
        have HCG := Lib.hid hCG
        have HC := Lib.hid (HCG.out wr)
        have E1 := Lib.hid e1
        have k0 : ∀ p : Later wr, p.val.cell? ⟨b, o, none⟩ = some (.int .i64 x) := fun p => below_cell p.h c0
        have k1 : ∀ p : Later wr, p.val.cell? ⟨b, o + 1, none⟩ = some (.int .i64 m) := fun p => below_cell p.h c1
        have k2 : ∀ p : Later wr, p.val.cell? ⟨b, o + 2, none⟩ = some (.int .i64 t) := fun p => below_cell p.h c2
        have k3 : ∀ p : Later wr, p.val.cell? ⟨b, o + 3, none⟩ = some (.slice da dl dc) := fun p => below_cell p.h c3
        have j0 : ∀ p : Later wr, p.val.cell? ⟨b2, o2, none⟩ = some (.int .i64 y) := fun p => below_cell p.h f0
        have j1 : ∀ p : Later wr, p.val.cell? ⟨b2, o2 + 1, none⟩ = some (.int .i64 l) := fun p => below_cell p.h f1
        have j2 : ∀ p : Later wr, p.val.cell? ⟨b2, o2 + 2, none⟩ = some (.int .i64 u) := fun p => below_cell p.h f2
        have j3 : ∀ p : Later wr, p.val.cell? ⟨b2, o2 + 3, none⟩ = some (.slice ea el ec) := fun p => below_cell p.h f3
        clear hky hrd2 he hdx hdy e1 hCG
        by_cases hC1 : C < 0
        · have E2 := Lib.hid (show R = (U ++ [(x, m, t, cs)]) ++ SM.un (xs.drop (k + 1)) (ys.drop n) by rw [E1.out, if_pos hC1, hdy'.out, List.append_assoc]; rfl)
          clear E1
          go_wp2
          refine wp_region_later (by kernel_rfl) (by kernel_rfl) ?_
          repeat (go_big_quiet_step (first | (go_at_call 45; with_reducible exact HC.out _)))
          refine wpQuiet_nil ?_
          rintro _ ⟨p', rfl⟩
          have d0 := below_cell p'.h c0
          have d1 := below_cell p'.h c1
          have d2 := below_cell p'.h c2
          have d3 := below_cell p'.h c3
          have hu2 := hu1.below p'.h
          have HB2 := Lib.hid (bnext hbl.out p'.h)
          have hbs : b < p'.val.heap.size := Nat.lt_of_lt_of_le hbw p'.h.size
          clear k0 k1 k2 k3 j0 j1 j2 j3 c0 c1 c2 c3 f0 f1 f2 f3 HC hu1 hbl hsz
          obtain ⟨w2, hw2⟩ : ∃ w2, w2 = p'.val := ⟨_, rfl⟩
          rw [← hw2] at d0 d1 d2 d3 hu2 HB2 hbs ⊢
          clear hw2
          have hsz := HB2.out.size
          go_wp2_with (at_builtin; refine wp_appG1' upE (x, m, t, da, dl, dc) _ rfl rfl _ _ rfl rfl hu2 rfl hlu hsz ?_)
          intro v3 w3 ho3 hb3 _
          have HO3 := Lib.hid (OwnF.snoc ho3 HTU.out HT1.out)
          have HB3 := Lib.hid (HB2.out.trans hb3)
          clear ho3 hb3 hu2 HTU d0 d1 d2 d3 HB2
          go_wp2
          go_roundw
          case rel => exact ⟨k + 1, n, _, by omega, by omega, by go_num, rfl, HO3, E2, by rw [List.length_append]; simp; omega, HB3⟩
          case measure => simp [intOf]; omega
        · go_wp2
          refine wp_region_later (by kernel_rfl) (by kernel_rfl) ?_
          repeat (go_big_quiet_step (first | (go_at_call 45; with_reducible exact HC.out _)))
          refine wpQuiet_nil ?_
          rintro _ ⟨p0, rfl⟩
          have hh := p0.h
          obtain ⟨w1, hw1⟩ : ∃ w1, w1 = p0.val := ⟨_, rfl⟩
          rw [← hw1] at hh ⊢
          clear hw1
          have c0 := below_cell hh c0
          have c1 := below_cell hh c1
          have c2 := below_cell hh c2
          have c3 := below_cell hh c3
          have f0 := below_cell hh f0
          have f1 := below_cell hh f1
          have f2 := below_cell hh f2
          have f3 := below_cell hh f3
          have hu1 := hu1.below hh
          have hbw : b < w1.heap.size := Nat.lt_of_lt_of_le hbw hh.size
          have hbw2 : b2 < w1.heap.size := Nat.lt_of_lt_of_le hbw2 hh.size
          have HBL := Lib.hid (bnext hbl.out hh)
          clear k0 k1 k2 k3 j0 j1 j2 j3 HC hbl hsz hh
          have k0 : ∀ p : Later w1, p.val.cell? ⟨b, o, none⟩ = some (.int .i64 x) := fun p => below_cell p.h c0
          have k1 : ∀ p : Later w1, p.val.cell? ⟨b, o + 1, none⟩ = some (.int .i64 m) := fun p => below_cell p.h c1
          have k2 : ∀ p : Later w1, p.val.cell? ⟨b, o + 2, none⟩ = some (.int .i64 t) := fun p => below_cell p.h c2
          have k3 : ∀ p : Later w1, p.val.cell? ⟨b, o + 3, none⟩ = some (.slice da dl dc) := fun p => below_cell p.h c3
          have j0 : ∀ p : Later w1, p.val.cell? ⟨b2, o2, none⟩ = some (.int .i64 y) := fun p => below_cell p.h f0
          have j1 : ∀ p : Later w1, p.val.cell? ⟨b2, o2 + 1, none⟩ = some (.int .i64 l) := fun p => below_cell p.h f1
          have j2 : ∀ p : Later w1, p.val.cell? ⟨b2, o2 + 2, none⟩ = some (.int .i64 u) := fun p => below_cell p.h f2
          have j3 : ∀ p : Later w1, p.val.cell? ⟨b2, o2 + 3, none⟩ = some (.slice ea el ec) := fun p => below_cell p.h f3
          have HC := Lib.hid (HCG.out w1)
          by_cases hC0 : C = 0
          · have E2 := Lib.hid (show R = (U ++ [(x, m, t, cs)]) ++ SM.un (xs.drop (k + 1)) (ys.drop (n + 1)) by rw [E1.out, if_neg (by omega), if_pos hC0, List.append_assoc]; rfl)
            have hC2 : ¬ 0 < C := by omega
            clear E1 hC0
            go_wp2
            refine wp_region_later (by kernel_rfl) (by kernel_rfl) ?_
            repeat (go_big_quiet_step (first | (go_at_call 45; with_reducible exact HC.out _)))
            refine wpQuiet_nil ?_
            rintro _ ⟨p', rfl⟩
            have d0 := below_cell p'.h c0
            have d1 := below_cell p'.h c1
            have d2 := below_cell p'.h c2
            have d3 := below_cell p'.h c3
            have hu2 := hu1.below p'.h
            have HB2 := Lib.hid (bnext HBL.out p'.h)
            have hbs : b < p'.val.heap.size := Nat.lt_of_lt_of_le hbw p'.h.size
            clear k0 k1 k2 k3 j0 j1 j2 j3 c0 c1 c2 c3 f0 f1 f2 f3 HC hu1 HBL
            obtain ⟨w2, hw2⟩ : ∃ w2, w2 = p'.val := ⟨_, rfl⟩
            rw [← hw2] at d0 d1 d2 d3 hu2 HB2 hbs ⊢
            clear hw2
            have hsz := HB2.out.size
            go_wp2_with (at_builtin; refine wp_appG1' upE (x, m, t, da, dl, dc) _ rfl rfl _ _ rfl rfl hu2 rfl hlu hsz ?_)
            intro v3 w3 ho3 hb3 _
            have HO3 := Lib.hid (OwnF.snoc ho3 HTU.out HT1.out)
            have HB3 := Lib.hid (HB2.out.trans hb3)
            clear ho3 hb3 hu2 HTU d0 d1 d2 d3 HB2
            go_wp2
            go_roundw
            case rel => exact ⟨k + 1, n + 1, _, by omega, by omega, by go_num, by go_num, HO3, E2, by rw [List.length_append]; simp; omega, HB3⟩
            case measure => simp [intOf]; omega
          · have hC2 : 0 < C := by omega
            have E2 := Lib.hid (show R = (U ++ [(y, l, u, ds)]) ++ SM.un (xs.drop k) (ys.drop (n + 1)) by rw [E1.out, if_neg (by omega), if_neg hC0, hdx'.out, List.append_assoc]; rfl)
            clear E1 hC0
            go_wp2
            refine wp_region_later (by kernel_rfl) (by kernel_rfl) ?_
            repeat (go_big_quiet_step (first | (go_at_call 45; with_reducible exact HC.out _)))
            refine wpQuiet_nil ?_
            rintro _ ⟨p', rfl⟩
            have d0 := below_cell p'.h f0
            have d1 := below_cell p'.h f1
            have d2 := below_cell p'.h f2
            have d3 := below_cell p'.h f3
            have hu2 := hu1.below p'.h
            have HB2 := Lib.hid (bnext HBL.out p'.h)
            have hbs : b2 < p'.val.heap.size := Nat.lt_of_lt_of_le hbw2 p'.h.size
            clear k0 k1 k2 k3 j0 j1 j2 j3 c0 c1 c2 c3 f0 f1 f2 f3 HC hu1 HBL
            obtain ⟨w2, hw2⟩ : ∃ w2, w2 = p'.val := ⟨_, rfl⟩
            rw [← hw2] at d0 d1 d2 d3 hu2 HB2 hbs ⊢
            clear hw2
            have hsz := HB2.out.size
            go_wp2_with (at_builtin; refine wp_appG1' upE (y, l, u, ea, el, ec) _ rfl rfl _ _ rfl rfl hu2 rfl hlu hsz ?_)
            intro v3 w3 ho3 hb3 _
            have HO3 := Lib.hid (OwnF.snoc ho3 HTU.out HT2.out)
            have HB3 := Lib.hid (HB2.out.trans hb3)
            clear ho3 hb3 hu2 HTU d0 d1 d2 d3 HB2
            go_wp2
            go_roundw
            case rel => exact ⟨k, n + 1, _, by omega, by omega, rfl, by go_num, HO3, E2, by rw [List.length_append]; simp; omega, HB3⟩
            case measure => simp [intOf]; omega
      · obtain rfl : n = ys.length := by omega
        have hqy : ¬ ((ys.length : Int) < (ys.length : Int)) := by omega
        have hey : ((ys.length : Int) == (ys.length : Int)) = true := beq_t rfl
        have E2 := Lib.hid (show R = (U ++ [(x, m, t, cs)]) ++ SM.un (xs.drop (k + 1)) (ys.drop ys.length) by rw [he.out, hdx, List.drop_length, SM.un_nil, SM.un_nil, List.append_assoc]; rfl)
        clear he hdx
        go_wp2
        go_quiet (fail)
        have HBL := Lib.hid (show Below w.heap.size w (wr.drewN nq) from hbl.out.trans (below_drewN _ _ _))
        have d0 : (wr.drewN nq).cell? ⟨b, o, none⟩ = some (.int .i64 x) := c0
        have d1 : (wr.drewN nq).cell? ⟨b, o + 1, none⟩ = some (.int .i64 m) := c1
        have d2 : (wr.drewN nq).cell? ⟨b, o + 2, none⟩ = some (.int .i64 t) := c2
        have d3 : (wr.drewN nq).cell? ⟨b, o + 3, none⟩ = some (.slice da dl dc) := c3
        have hu2 := hu1.drewN nq
        have hbs : b < (wr.drewN nq).heap.size := hbw
        clear c0 c1 c2 c3 hu1 hbl hsz
        obtain ⟨w2, hw2⟩ : ∃ w2, w2 = wr.drewN nq := ⟨_, rfl⟩
        rw [← hw2] at d0 d1 d2 d3 hu2 HBL hbs ⊢
        clear hw2
        have hsz := HBL.out.size
        go_wp2_with (at_builtin; refine wp_appG1' upE (x, m, t, da, dl, dc) _ rfl rfl _ _ rfl rfl hu2 rfl hlu hsz ?_)
        intro v3 w3 ho3 hb3 _
        have HO3 := Lib.hid (OwnF.snoc ho3 HTU.out HT1.out)
        have HB3 := Lib.hid (HBL.out.trans hb3)
        clear ho3 hb3 hu2 HTU d0 d1 d2 d3 HBL
        go_wp2
        go_roundw
        case rel => exact ⟨k + 1, ys.length, _, by omega, by omega, by go_num, rfl, HO3, E2, by rw [List.length_append]; simp; omega, HB3⟩
        case measure => simp [intOf]; omega
    · obtain rfl : k = xs.length := by omega
      have hqx : ¬ ((xs.length : Int) < (xs.length : Int)) := by omega
      have hex : ((xs.length : Int) == (xs.length : Int)) = true := beq_t rfl
      by_cases hy : n < ys.length
      · have hqy : (n : Int) < (ys.length : Int) := by omega
        have hey : ((n : Int) == (ys.length : Int)) = false := beq_f (by omega)
        have hdy := drop_get hy
        have hky := List.getElem?_eq_getElem hy
        generalize ys[n] = f at hdy hky
        obtain ⟨y, l, u, ds⟩ := f
        obtain ⟨b2, o2, ea, el, ec, hi2, hbw2, f0, f1, f2, f3, hrd2⟩ := HB.out.at_ n y l u ds hky
        have HT2 := Lib.hid (show Tell1 w (y, l, u, ea, el, ec) (y, l, u, ds) from ⟨rfl, rfl, rfl, hrd2⟩)
        have f0 := below_cell hbl.out f0
        have f1 := below_cell hbl.out f1
        have f2 := below_cell hbl.out f2
        have f3 := below_cell hbl.out f3
        have hbw2 : b2 < wr.heap.size := Nat.lt_of_lt_of_le hbw2 hbl.out.size
        have E2 := Lib.hid (show R = (U ++ [(y, l, u, ds)]) ++ SM.un (xs.drop xs.length) (ys.drop (n + 1)) by rw [he.out, hdy, List.drop_length, SM.nil_un, SM.nil_un, List.append_assoc]; rfl)
        clear he hdy hky hrd2
        go_wp2
        go_quiet (fail)
        have HBL := Lib.hid (show Below w.heap.size w (wr.drewN nq) from hbl.out.trans (below_drewN _ _ _))
        have d0 : (wr.drewN nq).cell? ⟨b2, o2, none⟩ = some (.int .i64 y) := f0
        have d1 : (wr.drewN nq).cell? ⟨b2, o2 + 1, none⟩ = some (.int .i64 l) := f1
        have d2 : (wr.drewN nq).cell? ⟨b2, o2 + 2, none⟩ = some (.int .i64 u) := f2
        have d3 : (wr.drewN nq).cell? ⟨b2, o2 + 3, none⟩ = some (.slice ea el ec) := f3
        have hu2 := hu1.drewN nq
        have hbs : b2 < (wr.drewN nq).heap.size := hbw2
        clear f0 f1 f2 f3 hu1 hbl hsz
        obtain ⟨w1, hw1⟩ : ∃ w1, w1 = wr.drewN nq := ⟨_, rfl⟩
        rw [← hw1] at d0 d1 d2 d3 hu2 HBL hbs ⊢
        clear hw1
        go_wp2
        go_quiet (fail)
        have HBL := Lib.hid (show Below w.heap.size w (w1.drewN nq) from HBL.out.trans (below_drewN _ _ _))
        have d0 : (w1.drewN nq).cell? ⟨b2, o2, none⟩ = some (.int .i64 y) := d0
        have d1 : (w1.drewN nq).cell? ⟨b2, o2 + 1, none⟩ = some (.int .i64 l) := d1
        have d2 : (w1.drewN nq).cell? ⟨b2, o2 + 2, none⟩ = some (.int .i64 u) := d2
        have d3 : (w1.drewN nq).cell? ⟨b2, o2 + 3, none⟩ = some (.slice ea el ec) := d3
        have hu2 := hu2.drewN nq
        have hbs : b2 < (w1.drewN nq).heap.size := hbs
        obtain ⟨w2, hw2⟩ : ∃ w2, w2 = w1.drewN nq := ⟨_, rfl⟩
        rw [← hw2] at d0 d1 d2 d3 hu2 HBL hbs ⊢
        clear hw2
        have hsz := HBL.out.size
        go_wp2_with (at_builtin; refine wp_appG1' upE (y, l, u, ea, el, ec) _ rfl rfl _ _ rfl rfl hu2 rfl hlu hsz ?_)
        intro v3 w3 ho3 hb3 _
        have HO3 := Lib.hid (OwnF.snoc ho3 HTU.out HT2.out)
        have HB3 := Lib.hid (HBL.out.trans hb3)
        clear ho3 hb3 hu2 HTU d0 d1 d2 d3 HBL
        go_wp2
        go_roundw
        case rel => exact ⟨xs.length, n + 1, _, by omega, by omega, rfl, by go_num, HO3, E2, by rw [List.length_append]; simp; omega, HB3⟩
        case measure => simp [intOf]; omega
      · obtain rfl : n = ys.length := by omega
        have hqy : ¬ ((ys.length : Int) < (ys.length : Int)) := by omega
        have E2 := Lib.hid (show R = U by rw [he.out, List.drop_length, List.drop_length, SM.un_nil, List.append_nil])
        have HF := Lib.hid (show RdF wr _ U from ⟨uq, hu1.rd, HTU.out.below hbl.out⟩)
        clear he hu1
        go_wp2
        go_ret
        exact ⟨_, rfl, by rw [E2.out]; exact HF.out, hbl.out⟩

end Go.Proofs.YtdfablboenfblaaDoor.ST

namespace Go.Proofs.YtdfablboenfblaaDoor.ST
open Go.RowKit Go.Joins
open UM (Ef)
open SM (Fp)

set_option maxRecDepth 100000 in
set_option maxHeartbeats 2000000 in
theorem rHas (v : Value) (fs : List Fp) (x m t : Int) (ua : Option Addr) (ul uc : Nat) (w : World) (h : RdF w v fs) :
    Calls Tryd.prog 51 #[v, uv x m t (.slice ua ul uc)] w fun e w' => e = .returned (.bool (SM.hasK fs x m)) ∧ Below w.heap.size w w' := by
  obtain ⟨ad, cap, rfl, hc, _⟩ := h.shape
  obtain ⟨R, hR⟩ : ∃ R, R = SM.hasK fs x m := ⟨_, rfl⟩
  rw [← hR]
  have hb0 := below_fresh w (.cells #[.int .i64 x, .int .i64 m, .int .i64 t, .slice ua ul uc] 43)
  have hP0 := UBox.fresh w x m t (.slice ua ul uc)
  have H := Lib.hid (h.below hb0)
  have HR := Lib.hid hR
  clear h hR
  go_enter Tryd.func51, Tryd.ntmps51
  go_wp2
  obtain ⟨w0, hw0⟩ : ∃ w0, w.alloc (.cells #[.int .i64 x, .int .i64 m, .int .i64 t, .slice ua ul uc] 43) = w0 := ⟨_, rfl⟩
  rw [hw0] at hb0 hP0 H ⊢
  have HP := Lib.hid hP0
  have HB := Lib.hid hb0
  clear hw0 hb0 hP0
  go_loopw [5] (fun i wr => ∃ k : Nat, k ≤ fs.length ∧ i = .int .i64 k ∧ Below w0.heap.size w0 wr ∧ Hid (R = SM.hasK (fs.drop k) x m)) (fun i _ => fs.length - (intOf i).toNat)
  case atStart => exact ⟨0, Nat.zero_le _, rfl, Below.refl _ _, HR.out⟩
  case round =>
    obtain ⟨k, hk, rfl, hbl, he⟩ := hrel
    clear HR
    by_cases hlt : k < fs.length
    · have hq : (k : Int) < (fs.length : Int) := by omega
      have hd := drop_get hlt
      have hk2 := List.getElem?_eq_getElem hlt
      generalize fs[k] = f at hd hk2
      have e1 : Hid (R = ((decide (f.1 = x) && decide (f.2.1 = m)) || SM.hasK (fs.drop (k + 1)) x m)) := by show R = _; rw [he.out, hd]; rfl
      obtain ⟨y, n, u, cs⟩ := f
      obtain ⟨b, o, da, dl, dc, hi, hb, c0, c1, c2, c3, _⟩ := (H.out.below hbl).at_ k y n u cs hk2
      obtain ⟨r0, r1, r2, r3⟩ := HP.out.below hbl
      have z0 : ∀ p : Later wr, p.val.cell? ⟨w.heap.size, 0, none⟩ = some (.int .i64 x) := fun p => below_cell p.h r0
      have z1 : ∀ p : Later wr, p.val.cell? ⟨w.heap.size, 1, none⟩ = some (.int .i64 m) := fun p => below_cell p.h r1
      have z2 : ∀ p : Later wr, p.val.cell? ⟨w.heap.size, 2, none⟩ = some (.int .i64 t) := fun p => below_cell p.h r2
      have z3 : ∀ p : Later wr, p.val.cell? ⟨w.heap.size, 3, none⟩ = some (.slice ua ul uc) := fun p => below_cell p.h r3
      have k0 : ∀ p : Later wr, p.val.cell? ⟨b, o, none⟩ = some (.int .i64 y) := fun p => below_cell p.h c0
      have k1 : ∀ p : Later wr, p.val.cell? ⟨b, o + 1, none⟩ = some (.int .i64 n) := fun p => below_cell p.h c1
      have k2 : ∀ p : Later wr, p.val.cell? ⟨b, o + 2, none⟩ = some (.int .i64 u) := fun p => below_cell p.h c2
      have k3 : ∀ p : Later wr, p.val.cell? ⟨b, o + 3, none⟩ = some (.slice da dl dc) := fun p => below_cell p.h c3
      have hC := fun p : Later wr => rCompareL y n u da dl dc x m t ua ul uc p
      have hz := @SM.cmpU_zero y n x m
      generalize UM.cmpU y n x m = C at hC hz
      have HC := Lib.hid hC
      clear r0 r1 r2 r3 c0 c1 c2 c3 hC hd hk2 he hb
      by_cases hC0 : C = 0
      · have e2 := Lib.hid (show R = true by rw [e1.out, decide_eq_true (hz.1 hC0).1, decide_eq_true (hz.1 hC0).2]; rfl)
        have hCt : (C == 0) = true := beq_t hC0
        clear e1 hz hC0
        go_wp2
        refine wp_region_later (by kernel_rfl) (by kernel_rfl) ?_
        repeat (go_big_quiet_step (first | (go_at_call 45; with_reducible exact HC.out _)))
        refine wpQuiet_nil ?_
        rintro _ ⟨p', rfl⟩
        have HB2 := Lib.hid (bnext (bnext HB.out hbl) p'.h)
        generalize p'.val = w2 at HB2 ⊢
        go_wp2
        go_ret
        rw [e2.out]
        exact ⟨rfl, HB2.out⟩
      · have e2 := Lib.hid (show R = SM.hasK (fs.drop (k + 1)) x m by
          rw [e1.out]
          by_cases h1 : y = x
          · rw [decide_eq_false (show ¬ n = m from fun h2 => hC0 (hz.2 ⟨h1, h2⟩)), Bool.and_false, Bool.false_or]
          · rw [decide_eq_false (show ¬ y = x from h1), Bool.false_and, Bool.false_or])
        have hCt : (C == 0) = false := beq_f hC0
        clear e1 hz hC0
        go_wp2
        refine wp_region_later (by kernel_rfl) (by kernel_rfl) ?_
        repeat (go_big_quiet_step (first | (go_at_call 45; with_reducible exact HC.out _)))
        refine wpQuiet_nil ?_
        rintro _ ⟨p', rfl⟩
        have HB2 := Lib.hid (bnext hbl p'.h)
        generalize p'.val = w2 at HB2 ⊢
        clear k0 k1 k2 k3 z0 z1 z2 z3 HC hbl
        go_wp2
        go_roundw
        case rel => exact ⟨k + 1, by omega, by go_num, HB2.out, e2⟩
        case measure => simp [intOf]; omega
    · have hq : ¬ ((k : Int) < (fs.length : Int)) := by omega
      have e2 := Lib.hid (show R = false by rw [he.out, List.drop_of_length_le (by omega)]; rfl)
      clear he
      go_wp2
      go_ret
      rw [e2.out]
      exact ⟨rfl, bnext HB.out hbl⟩

set_option maxRecDepth 100000 in
set_option maxHeartbeats 2000000 in
theorem rContains (va vb : Value) (xs ys : List Fp) (w : World) (ha : RdF w va xs) (hb : RdF w vb ys) :
    Calls Tryd.prog 21 #[va, vb] w fun e w' => e = .returned (.bool (SM.conk xs ys)) ∧ Below w.heap.size w w' := by
  obtain ⟨aa, ac, rfl, hac, _⟩ := ha.shape
  obtain ⟨ba, bc, rfl, hbc, _⟩ := hb.shape
  obtain ⟨R, hR⟩ : ∃ R, R = SM.conk xs ys := ⟨_, rfl⟩
  rw [← hR]
  have HA := Lib.hid ha
  have HB := Lib.hid hb
  have HR := Lib.hid hR
  clear ha hb hR
  go_enter Tryd.func21, Tryd.ntmps21
  go_wp2
  go_loopw [5] (fun i wr => ∃ k : Nat, k ≤ ys.length ∧ i = .int .i64 k ∧ Below w.heap.size w wr ∧ Hid (R = SM.conk xs (ys.drop k))) (fun i _ => ys.length - (intOf i).toNat)
  case atStart => exact ⟨0, Nat.zero_le _, rfl, Below.refl _ _, HR.out⟩
  case round =>
    obtain ⟨k, hk, rfl, hbl, he⟩ := hrel
    clear HR
    by_cases hlt : k < ys.length
    · have hq : (k : Int) < (ys.length : Int) := by omega
      have hd := drop_get hlt
      have hk2 := List.getElem?_eq_getElem hlt
      generalize ys[k] = f at hd hk2
      have e1 : Hid (R = (SM.hasK xs f.1 f.2.1 && SM.conk xs (ys.drop (k + 1)))) := by show R = _; rw [he.out, hd]; rfl
      obtain ⟨x, m, t, cs⟩ := f
      obtain ⟨b, o, da, dl, dc, hi, hb, c0, c1, c2, c3, hrd⟩ := (HB.out.below hbl).at_ k x m t cs hk2
      have hF := rHas (.slice aa xs.length ac) xs x m t da dl dc _ (HA.out.below hbl)
      simp only at e1
      generalize SM.hasK xs x m = D at hF e1
      have HF := Lib.hid hF
      clear hk2 hd he hF hrd
      cases D
      · have e2 := Lib.hid (e1.out.trans (Bool.false_and _))
        clear e1
        go_wp2_with fail
        refine HF.out.mono ?_
        rintro e w1 ⟨rfl, hb1⟩
        go_wp2
        go_ret
        rw [e2.out]
        exact ⟨rfl, bnext hbl hb1⟩
      · have e2 := Lib.hid (e1.out.trans (Bool.true_and _))
        clear e1
        go_wp2_with fail
        refine HF.out.mono ?_
        rintro e w1 ⟨rfl, hb1⟩
        have HB1 := Lib.hid (bnext hbl hb1)
        clear c0 c1 c2 c3 hi hb HF hbl hb1
        go_wp2
        go_roundw
        case rel => exact ⟨k + 1, by omega, by go_num, HB1.out, e2⟩
        case measure => simp [intOf]; omega
    · have hq : ¬ ((k : Int) < (ys.length : Int)) := by omega
      have e2 := Lib.hid (show R = true by rw [he.out, List.drop_of_length_le (by omega)]; rfl)
      clear he
      go_wp2
      go_ret
      rw [e2.out]
      exact ⟨rfl, hbl⟩

theorem eq_drop {xs ys : List Fp} {k : Nat} {f g : Fp} (h1 : xs.drop k = f :: xs.drop (k + 1)) (h2 : ys.drop k = g :: ys.drop (k + 1)) :
    decide (xs.drop k = ys.drop k) = (UM.eqU f.1 f.2.1 f.2.2.1 f.2.2.2 g.1 g.2.1 g.2.2.1 g.2.2.2 && decide (xs.drop (k + 1) = ys.drop (k + 1))) := by
  obtain ⟨x, m, t, cs⟩ := f
  obtain ⟨y, n, u, ds⟩ := g
  rw [h1, h2]
  unfold UM.eqU
  rw [← Bool.decide_and]
  refine decide_eq_decide.2 ?_
  rw [List.cons_eq_cons]
  simp

set_option maxRecDepth 100000 in
set_option maxHeartbeats 2000000 in
theorem rEqualState (va vb : Value) (xs ys : List Fp) (w : World) (ha : RdF w va xs) (hb : RdF w vb ys) :
    Calls Tryd.prog 23 #[va, vb] w fun e w' => e = .returned (.bool (decide (xs = ys))) ∧ Below w.heap.size w w' := by
  obtain ⟨aa, ac, rfl, hac, _⟩ := ha.shape
  obtain ⟨ba, bc, rfl, hbc, _⟩ := hb.shape
  have HA := Lib.hid ha
  have HB := Lib.hid hb
  clear ha hb
  by_cases hlen : xs.length = ys.length
  · obtain ⟨R, hR⟩ : ∃ R, R = decide (xs = ys) := ⟨_, rfl⟩
    rw [← hR]
    have HR := Lib.hid hR
    clear hR
    have HL := Lib.hid hlen
    have hq0 : ((xs.length : Int) != (ys.length : Int)) = false := by simp; omega
    rw [← hlen] at hq0 ⊢
    clear hlen
    go_enter Tryd.func23, Tryd.ntmps23
    go_wp2
    go_loopw [5] (fun i wr => ∃ k : Nat, k ≤ xs.length ∧ i = .int .i64 k ∧ Below w.heap.size w wr ∧ Hid (R = decide (xs.drop k = ys.drop k))) (fun i _ => xs.length - (intOf i).toNat)
    case atStart => exact ⟨0, Nat.zero_le _, rfl, Below.refl _ _, HR.out⟩
    case round =>
      obtain ⟨k, hk, rfl, hbl, he⟩ := hrel
      clear HR
      by_cases hlt : k < xs.length
      · have hlt2 : k < ys.length := by rw [← HL.out]; exact hlt
        have hq : (k : Int) < (xs.length : Int) := by omega
        have hatx := List.getElem?_eq_getElem hlt
        have haty := List.getElem?_eq_getElem hlt2
        have hdx := drop_get hlt
        have hdy := drop_get hlt2
        generalize xs[k] = f at hdx hatx
        generalize ys[k] = g at hdy haty
        have e1 := Lib.hid (he.out.trans (eq_drop hdx hdy))
        obtain ⟨x, m, t, cs⟩ := f
        obtain ⟨y, n, u, ds⟩ := g
        obtain ⟨b, o, da, dl, dc, hi, hb, c0, c1, c2, c3, hrd⟩ := (HA.out.below hbl).at_ k x m t cs hatx
        obtain ⟨b2, o2, ea, el, ec, hi2, hb2, f0, f1, f2, f3, hrd2⟩ := (HB.out.below hbl).at_ k y n u ds haty
        rw [← HL.out] at hi2
        have k0 : ∀ p : Later wr, p.val.cell? ⟨b, o, none⟩ = some (.int .i64 x) := fun p => below_cell p.h c0
        have k1 : ∀ p : Later wr, p.val.cell? ⟨b, o + 1, none⟩ = some (.int .i64 m) := fun p => below_cell p.h c1
        have k2 : ∀ p : Later wr, p.val.cell? ⟨b, o + 2, none⟩ = some (.int .i64 t) := fun p => below_cell p.h c2
        have k3 : ∀ p : Later wr, p.val.cell? ⟨b, o + 3, none⟩ = some (.slice da dl dc) := fun p => below_cell p.h c3
        have j0 : ∀ p : Later wr, p.val.cell? ⟨b2, o2, none⟩ = some (.int .i64 y) := fun p => below_cell p.h f0
        have j1 : ∀ p : Later wr, p.val.cell? ⟨b2, o2 + 1, none⟩ = some (.int .i64 n) := fun p => below_cell p.h f1
        have j2 : ∀ p : Later wr, p.val.cell? ⟨b2, o2 + 2, none⟩ = some (.int .i64 u) := fun p => below_cell p.h f2
        have j3 : ∀ p : Later wr, p.val.cell? ⟨b2, o2 + 3, none⟩ = some (.slice ea el ec) := fun p => below_cell p.h f3
        have hE := fun p : Later wr => Calls.later (rEqU x m t (.slice da dl dc) cs y n u (.slice ea el ec) ds p.val (hrd.below p.h) (hrd2.below p.h))
        simp only at e1
        generalize UM.eqU x m t cs y n u ds = D at hE e1
        have HE := Lib.hid hE
        clear hatx haty hdx hdy he hrd hrd2 c0 c1 c2 c3 f0 f1 f2 f3 hE hb hb2
        cases D
        · have e2 := Lib.hid (e1.out.trans (Bool.false_and _))
          clear e1
          go_wp2
          refine wp_region_later (by kernel_rfl) (by kernel_rfl) ?_
          repeat (go_big_quiet_step (first | (go_at_call 54; with_reducible exact HE.out _)))
          refine wpQuiet_nil ?_
          rintro _ ⟨p', rfl⟩
          have HB2 := Lib.hid (bnext hbl p'.h)
          generalize p'.val = w2 at HB2 ⊢
          go_wp2
          go_ret
          rw [e2.out]
          exact ⟨rfl, HB2.out⟩
        · have e2 := Lib.hid (e1.out.trans (Bool.true_and _))
          clear e1
          go_wp2
          refine wp_region_later (by kernel_rfl) (by kernel_rfl) ?_
          repeat (go_big_quiet_step (first | (go_at_call 54; with_reducible exact HE.out _)))
          refine wpQuiet_nil ?_
          rintro _ ⟨p', rfl⟩
          have HB2 := Lib.hid (bnext hbl p'.h)
          generalize p'.val = w2 at HB2 ⊢
          clear k0 k1 k2 k3 j0 j1 j2 j3 HE hbl
          go_wp2
          go_roundw
          case rel => exact ⟨k + 1, by omega, by go_num, HB2.out, e2⟩
          case measure => simp [intOf]; omega
      · have hq : ¬ ((k : Int) < (xs.length : Int)) := by omega
        have e2 := Lib.hid (show R = true by rw [he.out, List.drop_of_length_le (by omega), List.drop_of_length_le (by rw [← HL.out]; omega)]; rfl)
        clear he
        go_wp2
        go_ret
        rw [e2.out]
        exact ⟨rfl, hbl⟩
  · have e2 := Lib.hid (show decide (xs = ys) = false from decide_eq_false fun h => hlen (by rw [h]))
    have hq0 : ((xs.length : Int) != (ys.length : Int)) = true := by simp; omega
    clear hlen HA HB
    go_enter Tryd.func23, Tryd.ntmps23
    go_wp2
    go_ret
    rw [e2.out]
    exact ⟨rfl, Below.refl _ _⟩

set_option maxRecDepth 100000 in
set_option maxHeartbeats 2000000 in
theorem gEqualFunc (va vb : Value) (xs ys : List Fp) (w : World) (ha : RdF w va xs) (hb : RdF w vb ys) :
    Calls Tryd.prog 52 #[va, vb, .func (.func 53) #[] #[]] w fun e w' => e = .returned (.bool (decide (xs = ys))) ∧ Below w.heap.size w w' := by
  obtain ⟨aa, ac, rfl, hac, _⟩ := ha.shape
  obtain ⟨ba, bc, rfl, hbc, _⟩ := hb.shape
  have HA := Lib.hid ha
  have HB := Lib.hid hb
  clear ha hb
  by_cases hlen : xs.length = ys.length
  · obtain ⟨R, hR⟩ : ∃ R, R = decide (xs = ys) := ⟨_, rfl⟩
    rw [← hR]
    have HR := Lib.hid hR
    clear hR
    have HL := Lib.hid hlen
    have hq0 : ((xs.length : Int) != (ys.length : Int)) = false := by simp; omega
    rw [← hlen] at hq0 ⊢
    clear hlen
    go_enter Tryd.func52, Tryd.ntmps52
    go_wp2
    go_loopw [17] (fun i wr => ∃ k : Nat, k ≤ xs.length ∧ i = .int .i64 k ∧ Below w.heap.size w wr ∧ Hid (R = decide (xs.drop k = ys.drop k))) (fun i _ => xs.length - (intOf i).toNat)
    case atStart => exact ⟨0, Nat.zero_le _, rfl, Below.refl _ _, HR.out⟩
    case round =>
      obtain ⟨k, hk, rfl, hbl, he⟩ := hrel
      clear HR
      by_cases hlt : k < xs.length
      · have hlt2 : k < ys.length := by rw [← HL.out]; exact hlt
        have hq : (k : Int) < (xs.length : Int) := by omega
        have hatx := List.getElem?_eq_getElem hlt
        have haty := List.getElem?_eq_getElem hlt2
        have hdx := drop_get hlt
        have hdy := drop_get hlt2
        generalize xs[k] = f at hdx hatx
        generalize ys[k] = g at hdy haty
        have e1 := Lib.hid (he.out.trans (eq_drop hdx hdy))
        obtain ⟨x, m, t, cs⟩ := f
        obtain ⟨y, n, u, ds⟩ := g
        obtain ⟨b, o, da, dl, dc, hi, hb, c0, c1, c2, c3, hrd⟩ := (HA.out.below hbl).at_ k x m t cs hatx
        have hbx := below_fresh wr (.cells #[.int .i64 x, .int .i64 m, .int .i64 t, .slice da dl dc] 43)
        have hpx := UBox.fresh wr x m t (.slice da dl dc)
        obtain ⟨wx, hwx⟩ : ∃ wx, wr.alloc (.cells #[.int .i64 x, .int .i64 m, .int .i64 t, .slice da dl dc] 43) = wx := ⟨_, rfl⟩
        rw [hwx] at hbx hpx
        have hsx : wx.heap.size = wr.heap.size + 1 := by rw [← hwx]; exact World.size_alloc _ _
        obtain ⟨b2, o2, ea, el, ec, hi2, hb2, f0, f1, f2, f3, hrd2⟩ := (HB.out.below hbl).at_ k y n u ds haty
        rw [← HL.out] at hi2
        have hby := below_fresh wx (.cells #[.int .i64 y, .int .i64 n, .int .i64 u, .slice ea el ec] 43)
        have hpy := UBox.fresh wx y n u (.slice ea el ec)
        rw [hsx] at hpy
        obtain ⟨wy, hwy⟩ : ∃ wy, wx.alloc (.cells #[.int .i64 y, .int .i64 n, .int .i64 u, .slice ea el ec] 43) = wy := ⟨_, rfl⟩
        rw [hwy] at hby hpy
        have hE := uEqual x m t (.slice da dl dc) cs y n u (.slice ea el ec) ds wy ((hrd.below hbx).below hby) ((hrd2.below hbx).below hby)
        have hpx2 := hpx.below hby
        have HBY := Lib.hid (bnext (bnext hbl hbx) hby)
        have HWX := Lib.hid hwx
        have HWY := Lib.hid hwy
        simp only at e1
        generalize UM.eqU x m t cs y n u ds = D at hE e1
        have HE := Lib.hid hE
        obtain ⟨p0, p1, p2, p3⟩ := hpx2
        obtain ⟨q0, q1, q2, q3⟩ := hpy
        clear hatx haty hdx hdy he hrd hrd2 hE hbx hpx hby hwx hwy hsx
        cases D
        · have e2 := Lib.hid (e1.out.trans (Bool.false_and _))
          clear e1
          go_wp2_with fail
          rw [HWX.out, HWY.out]
          refine HE.out.mono ?_
          rintro e w2 ⟨rfl, hb2⟩
          go_wp2
          go_ret
          rw [e2.out]
          exact ⟨rfl, bnext HBY.out hb2⟩
        · have e2 := Lib.hid (e1.out.trans (Bool.true_and _))
          clear e1
          go_wp2_with fail
          rw [HWX.out, HWY.out]
          refine HE.out.mono ?_
          rintro e w2 ⟨rfl, hb2⟩
          have HB2 := Lib.hid (bnext HBY.out hb2)
          clear p0 p1 p2 p3 q0 q1 q2 q3 c0 c1 c2 c3 f0 f1 f2 f3 hi hi2 HE HBY HWX HWY hbl hb2
          go_wp2
          go_roundw
          case rel => exact ⟨k + 1, by omega, by go_num, HB2.out, e2⟩
          case measure => simp [intOf]; omega
      · have hq : ¬ ((k : Int) < (xs.length : Int)) := by omega
        have e2 := Lib.hid (show R = true by rw [he.out, List.drop_of_length_le (by omega), List.drop_of_length_le (by rw [← HL.out]; omega)]; rfl)
        clear he
        go_wp2
        go_ret
        rw [e2.out]
        exact ⟨rfl, hbl⟩
  · have e2 := Lib.hid (show decide (xs = ys) = false from decide_eq_false fun h => hlen (by rw [h]))
    have hq0 : ((xs.length : Int) != (ys.length : Int)) = true := by simp; omega
    clear hlen HA HB
    go_enter Tryd.func52, Tryd.ntmps52
    go_wp2
    go_ret
    rw [e2.out]
    exact ⟨rfl, Below.refl _ _⟩

set_option maxRecDepth 100000 in
set_option maxHeartbeats 1000000 in
theorem gEqual (va vb : Value) (xs ys : List Fp) (w : World) (ha : RdF w va xs) (hb : RdF w vb ys) :
    Calls Tryd.prog 22 #[va, vb] w fun e w' => e = .returned (.bool (decide (xs = ys))) ∧ Below w.heap.size w w' := by
  obtain ⟨aa, ac, rfl, hac, _⟩ := ha.shape
  obtain ⟨ba, bc, rfl, hbc, _⟩ := hb.shape
  have HE := Lib.hid (gEqualFunc _ _ xs ys w ha hb)
  clear ha hb
  go_enter Tryd.func22, Tryd.ntmps22
  go_wp2_with fail
  refine HE.out.mono ?_
  rintro e w2 ⟨rfl, hb2⟩
  go_wp2
  go_ret
  exact ⟨rfl, hb2⟩

end Go.Proofs.YtdfablboenfblaaDoor.ST

namespace Go.Proofs.YtdfablboenfblaaDoor.ST
open Go.RowKit Go.Joins
open UM (Ef)
open SM (Fp)

/-- Place i is where an identifier is, or would be. -/
def AtF (fs : List Fp) (x m : Int) (i : Nat) : Prop := i ≤ fs.length ∧ (∀ k f, fs[k]? = some f → k < i → UM.cmpU f.1 f.2.1 x m < 0) ∧ (∀ k f, fs[k]? = some f → i ≤ k → 0 ≤ UM.cmpU f.1 f.2.1 x m)
def fndF (fs : List Fp) (x m : Int) (i : Nat) : Bool := match fs[i]? with | some f => decide (UM.cmpU f.1 f.2.1 x m = 0) | none => false
theorem cmp_lt {a m b n x k : Int} (h : SM.lt (a, m, 0, ([] : List Ef)) (b, n, 0, [])) (h2 : UM.cmpU b n x k < 0) : UM.cmpU a m x k < 0 := by
  unfold SM.lt at h; rw [SM.cmpP_lt] at *; simp only at h; omega
theorem cmp_gt {a m b n x k : Int} (h : SM.lt (a, m, 0, ([] : List Ef)) (b, n, 0, [])) (h2 : 0 ≤ UM.cmpU a m x k) : 0 ≤ UM.cmpU b n x k := by
  unfold SM.lt at h
  have h3 : ¬ UM.cmpU a m x k < 0 := by omega
  rw [SM.cmpP_lt] at h3
  have h4 : ¬ UM.cmpU b n x k < 0 := by rw [SM.cmpP_lt]; simp only at h; omega
  omega

theorem fnd_true {fs : List Fp} {x m : Int} {i : Nat} (h : fndF fs x m i = true) : ∃ f, fs[i]? = some f ∧ f.1 = x ∧ f.2.1 = m := by
  unfold fndF at h
  split at h
  · rename_i f hf
    exact ⟨f, hf, SM.cmpU_zero.1 (of_decide_eq_true h)⟩
  · cases h
theorem fnd_false {fs : List Fp} {x m : Int} {i : Nat} (hs : SM.Srt fs) (ha : AtF fs x m i) (h : fndF fs x m i = false) : ∀ f ∈ fs, ¬ (f.1 = x ∧ f.2.1 = m) := by
  intro f hf hk
  obtain ⟨j, hj, hjf⟩ := List.getElem_of_mem hf
  have h1 : fs[j]? = some f := by rw [List.getElem?_eq_getElem hj, hjf]
  have hz : UM.cmpU f.1 f.2.1 x m = 0 := SM.cmpU_zero.2 hk
  rcases Nat.lt_trichotomy j i with h2 | h2 | h2
  · have := ha.2.1 j f h1 h2; omega
  · subst h2
    unfold fndF at h
    rw [h1] at h
    simp [hz] at h
  · have hi : i < fs.length := by omega
    have h3 := List.getElem?_eq_getElem hi
    have h4 := ha.2.2 i _ h3 (Nat.le_refl _)
    have h5 := hs.get h3 h1 h2
    have h6 : UM.cmpU fs[i].1 fs[i].2.1 x m < 0 := by rw [SM.cmpP_lt]; unfold SM.lt at h5; omega
    omega

end Go.Proofs.YtdfablboenfblaaDoor.ST
