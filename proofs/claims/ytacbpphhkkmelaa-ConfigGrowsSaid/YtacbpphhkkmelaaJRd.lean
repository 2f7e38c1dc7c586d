/-
  The calls of the methods of proposal's reader: number, count, change. Conditions: the reader's block is as it is said; the input reads as bytes.
-/
import Derived.Test.YtacbpphhkkmelaaGoto
import Derived.Test.YtacbpphhkkmelaaJEnc
namespace Go.Proofs.Ytacbpphhkkmelaa
open Go.RowKit
open JM (Chg St)

/-- All blocks that were there but g are as they were. -/
structure Only (g : Nat) (w w' : World) : Prop where
  os : w'.os = w.os
  tape : w'.tape = w.tape
  output : w'.output = w.output
  size : w.heap.size ≤ w'.heap.size
  block : ∀ k, k < w.heap.size → k ≠ g → w'.heap[k]? = w.heap[k]?
theorem Only.refl (g : Nat) (w : World) : Only g w w := ⟨rfl, rfl, rfl, Nat.le_refl _, fun _ _ _ => rfl⟩
theorem Only.trans {g : Nat} {a b c : World} (h : Only g a b) (k : Only g b c) : Only g a c :=
  ⟨k.os.trans h.os, k.tape.trans h.tape, k.output.trans h.output, Nat.le_trans h.size k.size, fun i hi hne => (k.block i (Nat.lt_of_lt_of_le hi h.size) hne).trans (h.block i hi hne)⟩
theorem Only.drewN (g : Nat) (w : World) (n : Nat) : Only g w (w.drewN n) := ⟨rfl, rfl, rfl, Nat.le_refl _, fun _ _ _ => rfl⟩
theorem Only.set {g : Nat} {w : World} (off : Nat) (u : Value) : Only g w (w.setCell ⟨g, off, none⟩ u) := by
  have hb := (Below.refl 0 w).setCell (p := ⟨g, off, none⟩) (Nat.zero_le _) u
  exact ⟨hb.os, hb.tape, hb.output, hb.size, fun k _ hk => heap_setCell_other _ _ _ _ hk⟩
theorem Only.of {g : Nat} {w w' : World} (h : Below w.heap.size w w') : Only g w w' := ⟨h.os, h.tape, h.output, h.size, fun k hk _ => h.block k hk⟩
theorem Only.below {g B : Nat} {w w' : World} (h : Only g w w') (hB : B ≤ g) (hB2 : B ≤ w.heap.size) : Below B w w' :=
  ⟨h.os, h.tape, h.output, h.size, fun k hk => h.block k (by omega) (by omega)⟩
theorem Only.at {g : Nat} {w w' : World} (h : Only g w w') {k : Nat} {o : Obj} (hk : w.heap[k]? = some o) (hne : k ≠ g) : w'.heap[k]? = some o := by
  rw [h.block k (Array.getElem?_eq_some_iff.1 hk).1 hne, hk]

/-- Block g is a reader of the input v, in state s. -/
def RdrB (w : World) (g : Nat) (v : Value) (s : St) : Prop := w.heap[g]? = some (.cells #[v, .int .i64 (s.1 : Int), .int .i64 s.2] 100 (0, 0))
theorem RdrB.cells {w : World} {g : Nat} {v : Value} {s : St} (h : RdrB w g v s) :
    w.cell? ⟨g, 0, none⟩ = some v ∧ w.cell? ⟨g, 1, none⟩ = some (.int .i64 (s.1 : Int)) ∧ w.cell? ⟨g, 2, none⟩ = some (.int .i64 s.2) ∧ w.frozen? ⟨g, 0, none⟩ = false ∧ w.frozen? ⟨g, 1, none⟩ = false ∧ w.frozen? ⟨g, 2, none⟩ = false := by
  unfold RdrB at h
  refine ⟨?_, ?_, ?_, ?_, ?_, ?_⟩
  · simp [World.cell?, h]
  · simp [World.cell?, h]
  · simp [World.cell?, h]
  · simp [World.frozen?, h]
  · simp [World.frozen?, h]
  · simp [World.frozen?, h]
theorem RdrB.used {w : World} {g : Nat} {v : Value} {u : Nat} {e : Int} (h : RdrB w g v (u, e)) (u' : Nat) : RdrB (w.setCell ⟨g, 1, none⟩ (.int .i64 (u' : Int))) g v (u', e) :=
  heap_setCell_same w g 1 _ _ _ h
theorem RdrB.fail {w : World} {g : Nat} {v : Value} {u : Nat} {e : Int} (h : RdrB w g v (u, e)) (e' : Int) : RdrB (w.setCell ⟨g, 2, none⟩ (.int .i64 e')) g v (u, e') :=
  heap_setCell_same w g 2 _ _ _ h

theorem wUintQ {w : World} {v : Value} {xs : List Int} (h : Rd w v xs) (n : Nat) :
    Calls Try.prog 64 #[v] (w.drewN n) fun e w' => e = .returned (.tuple #[.int .u64 (WM.dec 0 0 xs).1, .int .i64 (WM.dec 0 0 xs).2.1, .int .i64 (WM.dec 0 0 xs).2.2]) ∧ ∃ k, w' = w.drewN k := by
  refine (wUint v xs (w.drewN n) h).mono ?_
  rintro e w1 ⟨rfl, rfl⟩
  exact ⟨rfl, n, rfl⟩

set_option maxRecDepth 100000 in
set_option maxHeartbeats 2000000 in
theorem rdNumber (g : Nat) (v : Value) (xs : List Int) (s : St) (w : World) (hb : RdrB w g v s) (h : Rd w v xs) (hu : s.1 ≤ xs.length) :
    Calls Try.prog 87 #[.pointer (some ⟨g, 0, none⟩)] w fun e w' => e = .returned (.int .i64 (JM.step xs s).1) ∧ RdrB w' g v (JM.step xs s).2 ∧ Only g w w' := by
  obtain ⟨c0, c1, c2, f0, f1, f2⟩ := hb.cells
  obtain ⟨u, er⟩ := s
  by_cases he : er = 0
  · subst he
    obtain ⟨ad, cp, rfl, hcp⟩ := h.shape
    obtain ⟨v2, hcut, hrd⟩ := h.cutL u hu
    have hby : WM.Bytes (xs.drop u) := hrd.bytes
    have HST := Lib.hid (show JM.step xs (u, 0) = if (JM.num (xs.drop u)).2.2 ≠ 0 then (0, (u, (JM.num (xs.drop u)).2.2)) else ((JM.num (xs.drop u)).1, (u + (JM.num (xs.drop u)).2.1.toNat, 0)) from if_neg (fun h => h rfl))
    have HB := Lib.hid hb
    have HU := Lib.hid (fun n => wUintQ hrd n)
    have hul : u ≤ 9223372036854775807 ∧ xs.length ≤ 9223372036854775807 := by
      obtain ⟨_, _, _, _, hn1, hn2, hcm, _⟩ := h
      unfold maxLen at hcm
      simp only at hu
      omega
    obtain ⟨hul, hxl⟩ := hul
    simp only at c1 c2
    rcases WM.dec_two (xs.drop u) hby with ⟨e1, he1, hd⟩ | ⟨m, hm, hd, hml, _⟩
    · have HS := Lib.hid (show JM.step xs (u, 0) = (0, (u, e1)) by
        rw [HST.out]; unfold JM.num; rw [hd]; simp only [ne_eq]; rw [if_pos (show ¬ e1 = 0 by omega)]; simp; omega)
      rw [hd] at HU
      have hne : (e1 == 0) = false := beq_f (by omega)
      have hne2 : (e1 != 0) = true := bne_t (by omega)
      rw [HS.out]
      have HF := Lib.hid (fun n => (show RdrB (w.drewN n) g (.slice ad xs.length cp) (u, 0) from HB.out).fail e1)
      clear h hrd hby hd he1 hb HST HS
      go_enter Try.func87, Try.ntmps87
      go_wp2
      go_quiet (first | (go_at_call 64; exact HU.out _))
      go_wp2
      go_ret
      exact ⟨rfl, HF.out _, (Only.drewN g w _).trans (Only.set 2 _)⟩
    · have hxd : (xs.drop u).length = xs.length - u := List.length_drop
      rw [hd] at HU
      by_cases hbig : 2147483647 < (m : Int)
      · have HS := Lib.hid (show JM.step xs (u, 0) = (0, (u, 9)) by
          rw [HST.out]; unfold JM.num; rw [hd]; simp [hbig])
        rw [HS.out]
        have HF := Lib.hid (fun n => (show RdrB (w.drewN n) g (.slice ad xs.length cp) (u, 0) from HB.out).fail 9)
        clear h hrd hby hd hb HST HS hm hml hxd
        go_enter Try.func87, Try.ntmps87
        go_wp2
        go_quiet (first | (go_at_call 64; exact HU.out _))
        go_wp2
        go_ret
        exact ⟨rfl, HF.out _, (Only.drewN g w _).trans (Only.set 2 _)⟩
      · have HS := Lib.hid (show JM.step xs (u, 0) = ((m : Int), (u + (WM.enc m).length, 0)) by
          rw [HST.out]; unfold JM.num; rw [hd]; simp [hbig])
        have hel := WM.enc_len10 m hm
        have hm31 : m < 2147483648 := by omega
        have hbig : decide (2147483647 < (m : Int)) = false := decide_eq_false hbig
        rw [HS.out]
        have hsum := Lib.hid (show (u : Int) + ((WM.enc m).length : Int) = ((u + (WM.enc m).length : Nat) : Int) by omega)
        have HF := Lib.hid (fun n => (show RdrB (w.drewN n) g (.slice ad xs.length cp) (u, 0) from HB.out).used (u + (WM.enc m).length))
        have hle : u + (WM.enc m).length ≤ xs.length := by simp only at hu; omega
        have hw1 : (u : Int) + ((WM.enc m).length : Int) ≤ 9223372036854775807 := by omega
        have hw2 : IntKind.i64.wrap (m : Int) = (m : Int) := IntWalk.i64_in _ (by omega)
        clear h hrd hby hd hb HST HS hm hml hxd hu
        generalize (WM.enc m).length = L at HU hsum HF hle hel hw1
        go_enter Try.func87, Try.ntmps87
        go_wp2
        go_quiet (first | (go_at_call 64; exact HU.out _))
        go_wp2
        rw [hsum.out]
        go_ret
        exact ⟨rfl, HF.out _, (Only.drewN g w _).trans (Only.set 1 _)⟩
  · have hne : (er != 0) = true := bne_t he
    have hs : JM.step xs (u, er) = (0, (u, er)) := JM.step_stop he
    rw [hs]
    have HB := Lib.hid hb
    simp only at c1 c2
    clear he hs h hb
    go_enter Try.func87, Try.ntmps87
    go_wp2
    go_ret
    exact ⟨rfl, HB.out, Only.refl _ _⟩

/-- What a run of the reader keeps, seen from the world in which the input was laid. -/
theorem seen {g : Nat} {W w w' : World} (hb : Below W.heap.size W w) (hg : W.heap.size ≤ g) (h : Only g w w') : Below W.heap.size W w' := hb.trans (h.below hg hb.size)

set_option maxRecDepth 100000 in
set_option maxHeartbeats 1000000 in
theorem rdCount (g : Nat) (v : Value) (xs : List Int) (s : St) (w : World) (hb : RdrB w g v s) (h : Rd w v xs) (hu : s.1 ≤ xs.length) :
    Calls Try.prog 88 #[.pointer (some ⟨g, 0, none⟩)] w fun e w' => e = .returned (.int .i64 (if 6 < (JM.step xs s).1 then 0 else (JM.step xs s).1)) ∧ RdrB w' g v (if 6 < (JM.step xs s).1 then ((JM.step xs s).2.1, 3) else (JM.step xs s).2) ∧ Only g w w' := by
  have HN := Lib.hid (rdNumber g v xs s w hb h hu)
  generalize JM.step xs s = p at HN
  obtain ⟨x, s'⟩ := p
  clear hb h hu
  by_cases hx : 6 < x
  · simp only [if_pos hx]
    go_enter Try.func88, Try.ntmps88
    go_wp2_with fail
    refine HN.out.mono ?_
    rintro e w1 ⟨rfl, hr, ho⟩
    obtain ⟨u, er⟩ := s'
    have c0 := hr.cells
    obtain ⟨c0, c1, c2, f0, f1, f2⟩ := c0
    have HF := Lib.hid (RdrB.fail hr 3)
    have HO := Lib.hid ho
    clear hr ho HN
    go_wp2
    go_ret
    exact ⟨rfl, HF.out, HO.out.trans (Only.set 2 _)⟩
  · simp only [if_neg hx]
    have hx : decide (6 < x) = false := decide_eq_false hx
    go_enter Try.func88, Try.ntmps88
    go_wp2_with fail
    refine HN.out.mono ?_
    rintro e w1 ⟨rfl, hr, ho⟩
    clear HN
    go_wp2
    go_ret
    exact ⟨rfl, hr, ho⟩

theorem many7 {xs : List Int} {s s1 s2 s3 s4 s5 s6 s7 : St} {x1 x2 x3 x4 x5 x6 x7 : Int} (h1 : JM.step xs s = (x1, s1)) (h2 : JM.step xs s1 = (x2, s2)) (h3 : JM.step xs s2 = (x3, s3)) (h4 : JM.step xs s3 = (x4, s4)) (h5 : JM.step xs s4 = (x5, s5)) (h6 : JM.step xs s5 = (x6, s6)) (h7 : JM.step xs s6 = (x7, s7)) :
    JM.many xs s 7 = ([x1, x2, x3, x4, x5, x6, x7], s7) := by
  simp [JM.many, h1, h2, h3, h4, h5, h6, h7]

theorem chg_ret {R : Ending → World → Prop} {a : Act} {w : World} {g : Nat} {k s t v x y z : Int} (hp : a.tmps.getD 2 undef = .pointer (some ⟨g, 0, none⟩)) (hg : w.heap[g]? = some (.cells #[.int .i64 k, .int .i64 s, .int .i64 t, .int .i64 v, .int .i64 x, .int .i64 y, .int .i64 z] 63 (0, 0)))
    (hd : a.defers = []) (hR : R (.returned (cv k s t v x y z)) w) : bodyPost Try.prog Try.f89 R .ret a w :=
  bodyPost_ret (results_cell_row (P := Try.prog) rfl a.tmps w g 63 _ _ _ hp hg Try.underlying63 rfl (by kernel_rfl)) hd hR

theorem chg_put {w : World} {g : Nat} {a0 a1 a2 a3 a4 a5 a6 : Value} (h : w.heap[g]? = some (.cells #[a0, a1, a2, a3, a4, a5, a6] 63 (0, 0))) (b0 b1 b2 b3 b4 b5 b6 : Value) :
    (((((((w.setCell ⟨g, 0, none⟩ b0).setCell ⟨g, 1, none⟩ b1).setCell ⟨g, 2, none⟩ b2).setCell ⟨g, 3, none⟩ b3).setCell ⟨g, 4, none⟩ b4).setCell ⟨g, 5, none⟩ b5).setCell ⟨g, 6, none⟩ b6).heap[g]? = some (.cells #[b0, b1, b2, b3, b4, b5, b6] 63 (0, 0)) ∧
    Only g w (((((((w.setCell ⟨g, 0, none⟩ b0).setCell ⟨g, 1, none⟩ b1).setCell ⟨g, 2, none⟩ b2).setCell ⟨g, 3, none⟩ b3).setCell ⟨g, 4, none⟩ b4).setCell ⟨g, 5, none⟩ b5).setCell ⟨g, 6, none⟩ b6) := by
  have h1 : (w.setCell ⟨g, 0, none⟩ b0).heap[g]? = some (.cells #[b0, a1, a2, a3, a4, a5, a6] 63 (0, 0)) := heap_setCell_same w g 0 _ _ b0 h
  have o1 : Only g w (w.setCell ⟨g, 0, none⟩ b0) := Only.set 0 b0
  generalize w.setCell ⟨g, 0, none⟩ b0 = w1 at h1 o1 ⊢
  clear h
  have h2 : (w1.setCell ⟨g, 1, none⟩ b1).heap[g]? = some (.cells #[b0, b1, a2, a3, a4, a5, a6] 63 (0, 0)) := heap_setCell_same w1 g 1 _ _ b1 h1
  have o2 : Only g w (w1.setCell ⟨g, 1, none⟩ b1) := o1.trans (Only.set 1 b1)
  generalize w1.setCell ⟨g, 1, none⟩ b1 = w2 at h2 o2 ⊢
  clear h1 o1
  have h3 : (w2.setCell ⟨g, 2, none⟩ b2).heap[g]? = some (.cells #[b0, b1, b2, a3, a4, a5, a6] 63 (0, 0)) := heap_setCell_same w2 g 2 _ _ b2 h2
  have o3 : Only g w (w2.setCell ⟨g, 2, none⟩ b2) := o2.trans (Only.set 2 b2)
  generalize w2.setCell ⟨g, 2, none⟩ b2 = w3 at h3 o3 ⊢
  clear h2 o2
  have h4 : (w3.setCell ⟨g, 3, none⟩ b3).heap[g]? = some (.cells #[b0, b1, b2, b3, a4, a5, a6] 63 (0, 0)) := heap_setCell_same w3 g 3 _ _ b3 h3
  have o4 : Only g w (w3.setCell ⟨g, 3, none⟩ b3) := o3.trans (Only.set 3 b3)
  generalize w3.setCell ⟨g, 3, none⟩ b3 = w4 at h4 o4 ⊢
  clear h3 o3
  have h5 : (w4.setCell ⟨g, 4, none⟩ b4).heap[g]? = some (.cells #[b0, b1, b2, b3, b4, a5, a6] 63 (0, 0)) := heap_setCell_same w4 g 4 _ _ b4 h4
  have o5 : Only g w (w4.setCell ⟨g, 4, none⟩ b4) := o4.trans (Only.set 4 b4)
  generalize w4.setCell ⟨g, 4, none⟩ b4 = w5 at h5 o5 ⊢
  clear h4 o4
  have h6 : (w5.setCell ⟨g, 5, none⟩ b5).heap[g]? = some (.cells #[b0, b1, b2, b3, b4, b5, a6] 63 (0, 0)) := heap_setCell_same w5 g 5 _ _ b5 h5
  have o6 : Only g w (w5.setCell ⟨g, 5, none⟩ b5) := o5.trans (Only.set 5 b5)
  generalize w5.setCell ⟨g, 5, none⟩ b5 = w6 at h6 o6 ⊢
  clear h5 o5
  have h7 : (w6.setCell ⟨g, 6, none⟩ b6).heap[g]? = some (.cells #[b0, b1, b2, b3, b4, b5, b6] 63 (0, 0)) := heap_setCell_same w6 g 6 _ _ b6 h6
  have o7 : Only g w (w6.setCell ⟨g, 6, none⟩ b6) := o6.trans (Only.set 6 b6)
  generalize w6.setCell ⟨g, 6, none⟩ b6 = w7 at h7 o7 ⊢
  clear h6 o6
  exact ⟨h7, o7⟩
theorem chg_free {w : World} {g : Nat} {cs : Array Value} (h : w.heap[g]? = some (.cells cs 63 (0, 0))) (i : Nat) : w.frozen? ⟨g, i, none⟩ = false := by simp [World.frozen?, h]

set_option maxRecDepth 100000 in
set_option maxHeartbeats 4000000 in
theorem rdChange (W : World) (g : Nat) (v : Value) (xs : List Int) (s : St) (w : World) (hb : RdrB w g v s) (h : Rd W v xs) (hW : Below W.heap.size W w) (hg : W.heap.size ≤ g) (hu : s.1 ≤ xs.length) :
    Calls Try.prog 89 #[.pointer (some ⟨g, 0, none⟩)] w fun e w' => e = .returned (cvT (JM.toChg (JM.many xs s 7).1)) ∧ RdrB w' g v (JM.many xs s 7).2 ∧ Only g w w' := by
  have HN : Hid (∀ (s s' : St) (x : Int) (w : World), s.1 ≤ xs.length → JM.step xs s = (x, s') → RdrB w g v s → Below W.heap.size W w → Calls Try.prog 87 #[.pointer (some ⟨g, 0, none⟩)] w fun e w' => e = .returned (.int .i64 x) ∧ RdrB w' g v s' ∧ Only g w w') := by
    intro s s' x w hu hs hr hb
    have := rdNumber g v xs s w hr (h.below hb) hu
    rw [hs] at this
    exact this
  have hstep : ∀ (s s' : St) (x : Int), s.1 ≤ xs.length → JM.step xs s = (x, s') → s'.1 ≤ xs.length := by
    intro s s' x hu hs
    have := (JM.step_small xs s h.bytes hu).2
    rw [hs] at this
    exact this
  obtain ⟨⟨x1, s1⟩, h1⟩ : ∃ p, JM.step xs s = p := ⟨_, rfl⟩
  obtain ⟨⟨x2, s2⟩, h2⟩ : ∃ p, JM.step xs s1 = p := ⟨_, rfl⟩
  obtain ⟨⟨x3, s3⟩, h3⟩ : ∃ p, JM.step xs s2 = p := ⟨_, rfl⟩
  obtain ⟨⟨x4, s4⟩, h4⟩ : ∃ p, JM.step xs s3 = p := ⟨_, rfl⟩
  obtain ⟨⟨x5, s5⟩, h5⟩ : ∃ p, JM.step xs s4 = p := ⟨_, rfl⟩
  obtain ⟨⟨x6, s6⟩, h6⟩ : ∃ p, JM.step xs s5 = p := ⟨_, rfl⟩
  obtain ⟨⟨x7, s7⟩, h7⟩ : ∃ p, JM.step xs s6 = p := ⟨_, rfl⟩
  have u1 := hstep _ _ _ hu h1
  have u2 := hstep _ _ _ u1 h2
  have u3 := hstep _ _ _ u2 h3
  have u4 := hstep _ _ _ u3 h4
  have u5 := hstep _ _ _ u4 h5
  have u6 := hstep _ _ _ u5 h6
  rw [many7 h1 h2 h3 h4 h5 h6 h7]
  show Calls _ _ _ _ fun e w' => e = .returned (cv x1 x2 x3 x4 x5 x6 x7) ∧ RdrB w' g v s7 ∧ Only g w w'
  have N1 : Hid (∀ w, RdrB w g v s → Below W.heap.size W w → Calls Try.prog 87 #[.pointer (some ⟨g, 0, none⟩)] w fun e w' => e = .returned (.int .i64 x1) ∧ RdrB w' g v s1 ∧ Only g w w') := fun w => HN.out _ _ _ w hu h1
  have N2 : Hid (∀ w, RdrB w g v s1 → Below W.heap.size W w → Calls Try.prog 87 #[.pointer (some ⟨g, 0, none⟩)] w fun e w' => e = .returned (.int .i64 x2) ∧ RdrB w' g v s2 ∧ Only g w w') := fun w => HN.out _ _ _ w u1 h2
  have N3 : Hid (∀ w, RdrB w g v s2 → Below W.heap.size W w → Calls Try.prog 87 #[.pointer (some ⟨g, 0, none⟩)] w fun e w' => e = .returned (.int .i64 x3) ∧ RdrB w' g v s3 ∧ Only g w w') := fun w => HN.out _ _ _ w u2 h3
  have N4 : Hid (∀ w, RdrB w g v s3 → Below W.heap.size W w → Calls Try.prog 87 #[.pointer (some ⟨g, 0, none⟩)] w fun e w' => e = .returned (.int .i64 x4) ∧ RdrB w' g v s4 ∧ Only g w w') := fun w => HN.out _ _ _ w u3 h4
  have N5 : Hid (∀ w, RdrB w g v s4 → Below W.heap.size W w → Calls Try.prog 87 #[.pointer (some ⟨g, 0, none⟩)] w fun e w' => e = .returned (.int .i64 x5) ∧ RdrB w' g v s5 ∧ Only g w w') := fun w => HN.out _ _ _ w u4 h5
  have N6 : Hid (∀ w, RdrB w g v s5 → Below W.heap.size W w → Calls Try.prog 87 #[.pointer (some ⟨g, 0, none⟩)] w fun e w' => e = .returned (.int .i64 x6) ∧ RdrB w' g v s6 ∧ Only g w w') := fun w => HN.out _ _ _ w u5 h6
  have N7 : Hid (∀ w, RdrB w g v s6 → Below W.heap.size W w → Calls Try.prog 87 #[.pointer (some ⟨g, 0, none⟩)] w fun e w' => e = .returned (.int .i64 x7) ∧ RdrB w' g v s7 ∧ Only g w w') := fun w => HN.out _ _ _ w u6 h7
  have hgl : g < w.heap.size := (Array.getElem?_eq_some_iff.1 hb).1
  obtain ⟨Z, hZ⟩ : ∃ Z, Z = Obj.cells #[.int .i64 0, .int .i64 0, .int .i64 0, .int .i64 0, .int .i64 0, .int .i64 0, .int .i64 0] 63 := ⟨_, rfl⟩
  have hfr := below_fresh w Z
  have hzb : (w.alloc Z).heap[w.heap.size]? = some Z := heap_alloc_new w _
  have HBN := Lib.hid (bnext hW hfr)
  have HRN := Lib.hid (show RdrB (w.alloc Z) g v s by unfold RdrB; rw [hfr.block g hgl]; exact hb)
  have HFR := Lib.hid (Only.of (g := g) hfr)
  have HZB := Lib.hid hzb
  have HZ := Lib.hid hZ
  have HGL := Lib.hid hgl
  have HGW := Lib.hid hg
  clear hb h hW hg hu hstep h1 h2 h3 h4 h5 h6 h7 u1 u2 u3 u4 u5 u6 HN hfr hzb hZ hgl
  go_enter Try.func89, Try.ntmps89
  go_wp2_with fail
  rw [← HZ.out]
  generalize w.alloc Z = w0 at HBN HRN HFR HZB ⊢
  refine (N1.out _ HRN.out HBN.out).mono ?_
  rintro e w1 ⟨rfl, hr, ho⟩
  have HB1 := Lib.hid (seen HBN.out HGW.out ho)
  have HO1 := Lib.hid ho
  have HR1 := Lib.hid hr
  clear hr ho N1
  go_wp2_with fail
  refine (N2.out _ HR1.out HB1.out).mono ?_
  rintro e w2 ⟨rfl, hr, ho⟩
  have HB2 := Lib.hid (seen HB1.out HGW.out ho)
  have HO2 := Lib.hid (HO1.out.trans ho)
  have HR2 := Lib.hid hr
  clear hr ho N2
  go_wp2_with fail
  refine (N3.out _ HR2.out HB2.out).mono ?_
  rintro e w3 ⟨rfl, hr, ho⟩
  have HB3 := Lib.hid (seen HB2.out HGW.out ho)
  have HO3 := Lib.hid (HO2.out.trans ho)
  have HR3 := Lib.hid hr
  clear hr ho N3
  go_wp2_with fail
  refine (N4.out _ HR3.out HB3.out).mono ?_
  rintro e w4 ⟨rfl, hr, ho⟩
  have HB4 := Lib.hid (seen HB3.out HGW.out ho)
  have HO4 := Lib.hid (HO3.out.trans ho)
  have HR4 := Lib.hid hr
  clear hr ho N4
  go_wp2_with fail
  refine (N5.out _ HR4.out HB4.out).mono ?_
  rintro e w5 ⟨rfl, hr, ho⟩
  have HB5 := Lib.hid (seen HB4.out HGW.out ho)
  have HO5 := Lib.hid (HO4.out.trans ho)
  have HR5 := Lib.hid hr
  clear hr ho N5
  go_wp2_with fail
  refine (N6.out _ HR5.out HB5.out).mono ?_
  rintro e w6 ⟨rfl, hr, ho⟩
  have HB6 := Lib.hid (seen HB5.out HGW.out ho)
  have HO6 := Lib.hid (HO5.out.trans ho)
  have HR6 := Lib.hid hr
  clear hr ho N6
  go_wp2_with fail
  refine (N7.out _ HR6.out HB6.out).mono ?_
  rintro e w7 ⟨rfl, hr, ho⟩
  have hne : w.heap.size ≠ g := Nat.ne_of_gt HGL.out
  have hz7 : w7.heap[w.heap.size]? = some (.cells #[.int .i64 0, .int .i64 0, .int .i64 0, .int .i64 0, .int .i64 0, .int .i64 0, .int .i64 0] 63) := by
    rw [← HZ.out]; exact (HO6.out.trans ho).at HZB.out hne
  have HPUT := Lib.hid (chg_put hz7 (.int .i64 x1) (.int .i64 x2) (.int .i64 x3) (.int .i64 x4) (.int .i64 x5) (.int .i64 x6) (.int .i64 x7))
  obtain ⟨z0, z1, z2, z3, z4, z5, z6⟩ := CBox.of hz7
  have f0 := chg_free hz7 0
  have f1 := chg_free hz7 1
  have f2 := chg_free hz7 2
  have f3 := chg_free hz7 3
  have f4 := chg_free hz7 4
  have f5 := chg_free hz7 5
  have f6 := chg_free hz7 6
  have HO7 := Lib.hid (HFR.out.trans (HO6.out.trans ho))
  have HR7 := Lib.hid hr
  have HN7 := Lib.hid hne
  have HZ7 := Lib.hid hz7
  clear hr ho N7 hne hz7 HO1 HO2 HO3 HO4 HO5 HO6 HR1 HR2 HR3 HR4 HR5 HR6 HB1 HB2 HB3 HB4 HB5 HB6 HZB HZ
  go_wp2
  refine chg_ret rfl HPUT.out.1 rfl ⟨rfl, ?_, ?_⟩
  · exact HPUT.out.2.at HR7.out (Ne.symm HN7.out)
  · have h := HPUT.out.2
    exact ⟨h.os.trans HO7.out.os, h.tape.trans HO7.out.tape, h.output.trans HO7.out.output, Nat.le_trans HO7.out.size h.size,
      fun k hk hne => (h.block k (Nat.lt_of_lt_of_le hk HO7.out.size) (Nat.ne_of_lt hk)).trans (HO7.out.block k hk hne)⟩

end Go.Proofs.Ytacbpphhkkmelaa
