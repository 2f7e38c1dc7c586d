/-
  What the laws of certificates need: parts of one pool as certificates, the latest of two, where a transfer starts; the reference's Latest and Start as calls that give a certificate, a configuration. Conditions: the pool is valid; what comes in reads.
-/
import Derived.Test.YtfdgoehfkfdgaaaHCon
namespace Go.Proofs.Ytfdgoehfkfdgaaa
open Go.RowKit
open JM (Chg)
open CM (Fp)

/-- A part of a pool. -/
def Pt (p l : List Fp) : Prop := ∃ g, l = CM.rs p g
theorem Pt.rs {p l : List Fp} (h : Pt p l) (k : Int → Int) : Pt p (CM.rs l k) := by
  obtain ⟨g, rfl⟩ := h
  exact ⟨_, CM.rs_rs p g k⟩
theorem Pt.mk (p : List Fp) (g : Int → Int) : Pt p (CM.rs p g) := ⟨g, rfl⟩
theorem Pt.nil {p : List Fp} (h : CM.Ok p) : Pt p [] := by
  refine ⟨fun _ => 0, ?_⟩
  symm
  unfold CM.rs
  rw [List.filter_eq_nil_iff]
  intro f hf
  have := CM.errF_num (h.all f hf)
  simp
  omega
theorem Pt.ok {p l : List Fp} (h : Pt p l) (hp : CM.Ok p) : CM.Ok l := by obtain ⟨g, rfl⟩ := h; exact hp.rs g
theorem Pt.agr {p l k : List Fp} (h : Pt p l) (h' : Pt p k) (hp : CM.Ok p) : CM.Agr l k := by
  obtain ⟨g, rfl⟩ := h
  obtain ⟨g', rfl⟩ := h'
  exact CM.rs_agr hp g g'
/-- A certificate out of a pool. -/
structure Ce (p f t : List Fp) : Prop where
  pf : Pt p f
  pt : Pt p t
  pc : CM.cons t f = true
theorem Ce.err {p f t : List Fp} (h : Ce p f t) (hp : CM.Ok p) : CM.errC f t = 0 := CM.errC_mk (h.pf.ok hp) (h.pt.ok hp) h.pc
theorem Ce.gd {p f t f' t' : List Fp} (h : Ce p f t) (h' : Ce p f' t') (hp : CM.Ok p) : Gd f t f' t' :=
  ⟨h.err hp, h'.err hp, h.pf.agr h'.pf hp, h.pf.agr h'.pt hp, h.pt.agr h'.pf hp, h.pt.agr h'.pt hp⟩
theorem Ce.mk2 (p : List Fp) (g k : Int → Int) : Ce p (CM.rs (CM.rs p g) k) (CM.rs p g) := ⟨(Pt.mk p g).rs k, Pt.mk p g, CM.cons_rs_rs p g k⟩
theorem Ce.low {p t : List Fp} (h : Pt p t) (hp : CM.Ok p) : Ce p [] t := ⟨Pt.nil hp, h, rfl⟩
theorem Ce.lat {p f t f' t' : List Fp} (h : Ce p f t) (h' : Ce p f' t') : Ce p (CM.latF f t f' t') (CM.latT t t') := by
  unfold CM.latF CM.latT
  split
  · exact h'
  · exact h
theorem newr_asym' {p t t' : List Fp} (hp : CM.Ok p) (h : Pt p t) (h' : Pt p t') (hn : CM.newr t t' = true) : CM.newr t' t = false := by
  obtain ⟨g, rfl⟩ := h
  obtain ⟨g', rfl⟩ := h'
  exact CM.newr_asym hp hn
theorem newr_trans' {p t t' u : List Fp} (hp : CM.Ok p) (h : Pt p t) (h' : Pt p t') (h2 : Pt p u) (hn : CM.newr t t' = true) (hm : CM.newr t' u = true) : CM.newr t u = true := by
  obtain ⟨g, rfl⟩ := h
  obtain ⟨g', rfl⟩ := h'
  obtain ⟨g2, rfl⟩ := h2
  exact CM.newr_trans hp hn hm
theorem newr_lat1 {p t t' : List Fp} (hp : CM.Ok p) (h : Pt p t) (h' : Pt p t') : CM.newr t (CM.latT t t') = false := by
  unfold CM.latT
  split
  · rename_i h1; exact newr_asym' hp h' h h1
  · exact CM.newr_self t
theorem newr_lat2 (t t' : List Fp) : CM.newr (CM.latT t t') t = CM.newr t' t := by
  unfold CM.latT
  split
  · rfl
  · rename_i h1
    rw [CM.newr_self]
    cases hx : CM.newr t' t with
    | false => rfl
    | true => exact absurd hx h1
theorem latF_self (f t : List Fp) : CM.latF f t f t = f := by unfold CM.latF; split <;> rfl
theorem latT_self (t : List Fp) : CM.latT t t = t := by unfold CM.latT; split <;> rfl

theorem rLatestE (a b c d : Value) (f t f' t' : List Fp) (w : World) (ha : RdF w a f) (hb : RdF w b t) (hc : RdF w c f') (hd : RdF w d t') :
    Calls Try.prog 18 #[cev a b, cev c d] w fun e w' => ∃ x y, e = .returned (cev x y) ∧ RdF w' x (CM.latF f t f' t') ∧ RdF w' y (CM.latT t t') ∧ Below w.heap.size w w' := by
  refine (rLatest a b c d f t f' t' w ha hb hc hd).mono ?_
  rintro e w' ⟨he, hb'⟩
  unfold CM.latF CM.latT
  by_cases h : CM.newr t' t = true
  · rw [if_pos h] at he ⊢
    rw [if_pos h]
    exact ⟨c, d, he, hc.below hb', hd.below hb', hb'⟩
  · rw [if_neg h] at he ⊢
    rw [if_neg h]
    exact ⟨a, b, he, ha.below hb', hb.below hb', hb'⟩
theorem rStartE (a b c d : Value) (f t f' t' : List Fp) (w : World) (ha : RdF w a f) (hb : RdF w b t) (hc : RdF w c f') (hd : RdF w d t') :
    Calls Try.prog 21 #[cev a b, cev c d] w fun e w' => ∃ x, e = .returned x ∧ RdF w' x (CM.strt f t t') ∧ Below w.heap.size w w' := by
  refine (rStart a b c d f t f' t' w ha hb hc hd).mono ?_
  rintro e w' ⟨he, hb'⟩
  unfold CM.strt
  by_cases h : (CM.conk t t' && CM.conk t' f) = true
  · rw [if_pos h] at he ⊢
    exact ⟨d, he, hd.below hb', hb'⟩
  · rw [if_neg h] at he ⊢
    exact ⟨a, he, ha.below hb', hb'⟩
/-- What valid tells of two certificates. -/
theorem gd_of {f t f' t' : List Fp} (h : (∀ c ∈ [(f, t), (f', t')], CM.errC c.1 c.2 = 0) ∧ CM.AllOk ([(f, t), (f', t')].flatMap fl)) : Gd f t f' t' := by
  obtain ⟨h1, _, h2⟩ := h
  have e : [(f, t), (f', t')].flatMap fl = [f, t, f', t'] := rfl
  rw [e] at h2
  exact ⟨h1 (f, t) (by simp), h1 (f', t') (by simp), (h2 2 0 f' f (by omega) rfl rfl).symm, (h2 3 0 t' f (by omega) rfl rfl).symm, (h2 2 1 f' t (by omega) rfl rfl).symm, (h2 3 1 t' t (by omega) rfl rfl).symm⟩
/-- One, three certificates of the call's own. -/
theorem oneX (w : World) (a b : Value) : ∃ w0, w.alloc (.cells #[a, b] 25) = w0 ∧ XB w0 w.heap.size a b ∧ Below w.heap.size w w0 := ⟨_, rfl, XB.fresh w a b, below_fresh w _⟩
theorem threeX (w : World) (a b c d x y : Value) :
    ∃ w0, ((w.alloc (.cells #[a, b] 25)).alloc (.cells #[c, d] 25)).alloc (.cells #[x, y] 25) = w0 ∧ XB w0 w.heap.size a b ∧ XB w0 (w.heap.size + 1) c d ∧ XB w0 (w.heap.size + 1 + 1) x y ∧ Below w.heap.size w w0 := by
  have s0 : ((w.alloc (.cells #[a, b] 25)).alloc (.cells #[c, d] 25)).heap.size = w.heap.size + 1 + 1 := by rw [World.size_alloc, World.size_alloc]
  obtain ⟨w1, hw1, x0, x1, b0⟩ := twoX w a b c d
  rw [hw1] at s0 ⊢
  have b1 := below_fresh w1 (.cells #[x, y] 25)
  have x2 := XB.fresh w1 x y
  rw [s0] at x2
  exact ⟨_, rfl, x0.below b1, x1.below b1, x2, bnext b0 b1⟩
theorem CT.latUp (ct : CT) {p f t f' t' : List Fp} (hp : CM.Ok p) (h : Ce p f t) (h' : Ce p f' t') (hc : CM.cons t' t = true) (a b c d : Value) (w : World) (g1 : RdF w a f) (g2 : RdF w b t) (g3 : RdF w c f') (g4 : RdF w d t') :
    Calls Try.prog 17 #[cev a b, cev c d] w fun e w' => ∃ x y f2, e = .returned (cev x y) ∧ RdF w' x f2 ∧ Ce p f2 t' ∧ RdF w' y t' ∧ Below w.heap.size w w' := by
  have hl := h.lat h'
  refine (ct.latest a b c d f t f' t' w g1 g2 g3 g4 (h.gd h' hp)).mono ?_
  rintro e w' ⟨x, y, he, r1, r2, hb⟩
  rw [CM.latT_up (h.pt.ok hp).srt (h'.pt.ok hp).srt hc] at hl r2
  exact ⟨x, y, _, he, r1, hl, r2, hb⟩
theorem CT.latDn (ct : CT) {p f t f' t' : List Fp} (hp : CM.Ok p) (h : Ce p f t) (h' : Ce p f' t') (hc : CM.cons t t' = true) (a b c d : Value) (w : World) (g1 : RdF w a f) (g2 : RdF w b t) (g3 : RdF w c f') (g4 : RdF w d t') :
    Calls Try.prog 17 #[cev a b, cev c d] w fun e w' => ∃ x y f2, e = .returned (cev x y) ∧ RdF w' x f2 ∧ Ce p f2 t ∧ RdF w' y t ∧ Below w.heap.size w w' := by
  have hl := h.lat h'
  refine (ct.latest a b c d f t f' t' w g1 g2 g3 g4 (h.gd h' hp)).mono ?_
  rintro e w' ⟨x, y, he, r1, r2, hb⟩
  rw [CM.latT_down (h'.pt.ok hp).srt (h.pt.ok hp).srt hc] at hl r2
  exact ⟨x, y, _, he, r1, hl, r2, hb⟩
theorem eqC (a b : Value) (xs : List Fp) (w : World) (g1 : RdF w a xs) (g2 : RdF w b xs) :
    Calls Try.prog 19 #[a, b] w fun e w' => e = .returned (.bool true) ∧ Below w.heap.size w w' := by
  have h := rEqualConfig a b xs xs w g1 g2
  rw [decide_eq_true rfl] at h
  exact h
theorem cons_rs1 (l : List Fp) (g : Int → Int) : CM.cons l (CM.rs l g) = true := CM.cons_iff.2 fun _ hf => (CM.rs_mem.1 hf).1
end Go.Proofs.Ytfdgoehfkfdgaaa
