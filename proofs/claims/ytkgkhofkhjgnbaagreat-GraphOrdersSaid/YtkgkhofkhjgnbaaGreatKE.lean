/-
  The calls of the methods of proposal's reader: number, count, change. Conditions: the reader's block is as it is said; the input reads as bytes.
  An append as one step of a region that draws its order; proposals in a block of their own, the block written out; the answer of a decoder. No conditions beyond those that each lemma names.
  The call of proposal.Decode (its second make): it returns what the plain mathematics says of the bytes. Conditions: the slice reads as bytes.
  The calls of the reference's Number, Read and DecodeProposal: each returns what the plain mathematics says of the bytes. Conditions: the slice reads as bytes.
  The call of the reference's DecodeProposal: it returns what the plain mathematics says of the bytes. Conditions: the slice reads as bytes.
-/
import Derived.Test.YtkgkhofkhjgnbaaGreatKB
import Derived.Test.YtkgkhofkhjgnbaaGreatKD
import Derived.Deep.RegionLaw
import Derived.Deep.AppendLies
import Derived.StillTailTactics
import Derived.Laws.ResultCell
import Derived.Deep.RegionHeld3
import Derived.Deep.CutRange
import Derived.Test.YtkgkhofkhjgnbaaGreatKC
namespace Go.Proofs.YtkgkhofkhjgnbaaGreat
open Go.RowKit
open JM (Chg St)

/-- All blocks that were there but g are as they were. -/
structure Only (g : Nat) (w w' : World) : Prop where
  os : w'.os = w.os
  tape : w'.tape = w.tape
  output : w'.output = w.output
  size : w.heap.size ≤ w'.heap.size
  block : ∀ k, k < w.heap.size → k ≠ g → w'.heap[k]? = w.heap[k]?
theorem Only.refl (g : Nat) (w : World) : Only g w w := ⟨rfl, rfl, rfl, Nat.le_refl _, fun _ _ _ => rfl⟩
theorem Only.trans {g : Nat} {a b c : World} (h : Only g a b) (k : Only g b c) : Only g a c :=
  ⟨k.os.trans h.os, k.tape.trans h.tape, k.output.trans h.output, Nat.le_trans h.size k.size, fun i hi hne => (k.block i (Nat.lt_of_lt_of_le hi h.size) hne).trans (h.block i hi hne)⟩
theorem Only.drewN (g : Nat) (w : World) (n : Nat) : Only g w (w.drewN n) := ⟨rfl, rfl, rfl, Nat.le_refl _, fun _ _ _ => rfl⟩
theorem Only.set {g : Nat} {w : World} (off : Nat) (u : Value) : Only g w (w.setCell ⟨g, off, none⟩ u) := by
  have hb := (Below.refl 0 w).setCell (p := ⟨g, off, none⟩) (Nat.zero_le _) u
  exact ⟨hb.os, hb.tape, hb.output, hb.size, fun k _ hk => heap_setCell_other _ _ _ _ hk⟩
theorem Only.of {g : Nat} {w w' : World} (h : Below w.heap.size w w') : Only g w w' := ⟨h.os, h.tape, h.output, h.size, fun k hk _ => h.block k hk⟩
theorem Only.below {g B : Nat} {w w' : World} (h : Only g w w') (hB : B ≤ g) (hB2 : B ≤ w.heap.size) : Below B w w' :=
  ⟨h.os, h.tape, h.output, h.size, fun k hk => h.block k (by omega) (by omega)⟩
theorem Only.at {g : Nat} {w w' : World} (h : Only g w w') {k : Nat} {o : Obj} (hk : w.heap[k]? = some o) (hne : k ≠ g) : w'.heap[k]? = some o := by
  rw [h.block k (Array.getElem?_eq_some_iff.1 hk).1 hne, hk]

/-- Block g is a reader of the input v, in state s. -/
def RdrB (w : World) (g : Nat) (v : Value) (s : St) : Prop := w.heap[g]? = some (.cells #[v, .int .i64 (s.1 : Int), .int .i64 s.2] 153 (0, 0))
theorem RdrB.cells {w : World} {g : Nat} {v : Value} {s : St} (h : RdrB w g v s) :
    w.cell? ⟨g, 0, none⟩ = some v ∧ w.cell? ⟨g, 1, none⟩ = some (.int .i64 (s.1 : Int)) ∧ w.cell? ⟨g, 2, none⟩ = some (.int .i64 s.2) ∧ w.frozen? ⟨g, 0, none⟩ = false ∧ w.frozen? ⟨g, 1, none⟩ = false ∧ w.frozen? ⟨g, 2, none⟩ = false := by
  unfold RdrB at h
  refine ⟨?_, ?_, ?_, ?_, ?_, ?_⟩
  · simp [World.cell?, h]
  · simp [World.cell?, h]
  · simp [World.cell?, h]
  · simp [World.frozen?, h]
  · simp [World.frozen?, h]
  · simp [World.frozen?, h]
theorem RdrB.used {w : World} {g : Nat} {v : Value} {u : Nat} {e : Int} (h : RdrB w g v (u, e)) (u' : Nat) : RdrB (w.setCell ⟨g, 1, none⟩ (.int .i64 (u' : Int))) g v (u', e) :=
  heap_setCell_same w g 1 _ _ _ h
theorem RdrB.fail {w : World} {g : Nat} {v : Value} {u : Nat} {e : Int} (h : RdrB w g v (u, e)) (e' : Int) : RdrB (w.setCell ⟨g, 2, none⟩ (.int .i64 e')) g v (u, e') :=
  heap_setCell_same w g 2 _ _ _ h

theorem wUintQ {w : World} {v : Value} {xs : List Int} (h : Rd w v xs) (n : Nat) :
    Calls Tryz.prog 148 #[v] (w.drewN n) fun e w' => e = .returned (.tuple #[.int .u64 (WM.dec 0 0 xs).1, .int .i64 (WM.dec 0 0 xs).2.1, .int .i64 (WM.dec 0 0 xs).2.2]) ∧ ∃ k, w' = w.drewN k := by
  refine (wUint v xs (w.drewN n) h).mono ?_
  rintro e w1 ⟨rfl, rfl⟩
  exact ⟨rfl, n, rfl⟩

set_option maxRecDepth 100000 in
set_option maxHeartbeats 2000000 in
/-- What 'number' decodes. -/
theorem cNumber (v : Value) (xs : List Int) (w : World) (h : Rd w v xs) :
    Calls Tryz.prog 144 #[v] w fun e w' => e = .returned (.tuple #[.int .i64 (JM.num xs).1, .int .i64 (JM.num xs).2.1, .int .i64 (JM.num xs).2.2]) ∧ w' = w := by
  have HU := Lib.hid (wUint v xs w h)
  rcases WM.dec_two xs h.bytes with ⟨e1, he1, hd⟩ | ⟨m, hm, hd, hml, _⟩
  · have HN := Lib.hid (show JM.num xs = (0, 0, e1) by unfold JM.num; rw [hd]; simp only [ne_eq]; rw [if_pos (show ¬ e1 = 0 by omega)])
    rw [HN.out]
    rw [hd] at HU
    clear h he1 hd HN
    go_enter Tryz.func144, Tryz.ntmps144
    go_wp2_with fail
    refine HU.out.mono ?_
    rintro e w1 ⟨rfl, rfl⟩
    clear HU
    go_wp2
    go_ret3
    exact ⟨rfl, rfl⟩
  · rw [hd] at HU
    by_cases hbig : 2147483647 < (m : Int)
    · have HN := Lib.hid (show JM.num xs = (0, 0, 9) by unfold JM.num; rw [hd]; simp [hbig])
      rw [HN.out]
      clear h hd HN hml
      go_enter Tryz.func144, Tryz.ntmps144
      go_wp2_with fail
      refine HU.out.mono ?_
      rintro e w1 ⟨rfl, rfl⟩
      clear HU
      go_wp2
      go_ret3
      exact ⟨rfl, rfl⟩
    · have HN := Lib.hid (show JM.num xs = ((m : Int), ((WM.enc m).length : Int), 0) by unfold JM.num; rw [hd]; simp [hbig])
      rw [HN.out]
      have hw2 : IntKind.i64.wrap (m : Int) = (m : Int) := IntWalk.i64_in _ (by omega)
      generalize (WM.enc m).length = L at HU
      clear h hd HN hml
      go_enter Tryz.func144, Tryz.ntmps144
      go_wp2_with fail
      refine HU.out.mono ?_
      rintro e w1 ⟨rfl, rfl⟩
      clear HU
      go_wp2
      go_ret3
      exact ⟨rfl, rfl⟩

set_option maxRecDepth 100000 in
set_option maxHeartbeats 2000000 in
/-- A reader that has not failed reads one value more. -/
theorem rdReadI (g : Nat) (v v2 : Value) (xs : List Int) (u : Nat) (w : World) (hb : RdrB w g v (u, 0)) (h : Rd w v xs) (F : FuncId) (X : Int) (N : Nat) (E : Int)
    (hcut : ∀ w0 : World, (Instr.slice 150 v (some (.int .i64 (u : Int))) none none).run Tryz.prog w0 = .ok v2 w0)
    (eF : ∀ args w, (callFunc F args).run Tryz.prog w = .ok (.enter F args) w)
    (hD : ∀ n, Calls Tryz.prog F #[v2] (w.drewN n) fun e w' => e = .returned (.tuple #[.int .i64 X, .int .i64 (N : Int), .int .i64 E]) ∧ ∃ k, w' = w.drewN k)
    (hle : u + N ≤ xs.length) :
    Calls Tryz.prog 143 #[.pointer (some ⟨g, 0, none⟩), .func (.func F) #[] #[]] w fun e w' => e = .returned (.int .i64 X) ∧ RdrB w' g v (u + N, E) ∧ Only g w w' := by
  obtain ⟨ad, cp, rfl, hcp⟩ := h.shape
  obtain ⟨c0, c1, c2, f0, f1, f2⟩ := hb.cells
  have hxl : xs.length ≤ 9223372036854775807 := by
    obtain ⟨_, _, _, _, hn1, hn2, hcm, _⟩ := h
    unfold maxLen at hcm
    omega
  have HB := Lib.hid hb
  have HU := Lib.hid hD
  have hsum := Lib.hid (show (u : Int) + (N : Int) = ((u + N : Nat) : Int) by omega)
  have HF := Lib.hid (fun n => ((show RdrB (w.drewN n) g (.slice ad xs.length cp) (u, 0) from HB.out).used (u + N)).fail E)
  simp only at c1 c2
  have hw1 : (u : Int) + (N : Int) ≤ 9223372036854775807 := by omega
  clear h hb hcp hD
  go_enter Tryz.func143, Tryz.ntmps143
  go_wp2
  go_quiet (first | (go_at_fn F; exact HU.out _))
  go_wp2
  rw [hsum.out]
  go_ret
  exact ⟨rfl, HF.out _, ((Only.drewN g w _).trans (Only.set 1 _)).trans (Only.set 2 _)⟩

set_option maxRecDepth 100000 in
/-- A reader that has failed reads zero. -/
theorem rdStopI (g : Nat) (v : Value) (u : Nat) (er : Int) (w : World) (hb : RdrB w g v (u, er)) (he : er ≠ 0) (f : Value) :
    Calls Tryz.prog 143 #[.pointer (some ⟨g, 0, none⟩), f] w fun e w' => e = .returned (.int .i64 0) ∧ RdrB w' g v (u, er) ∧ Only g w w' := by
  obtain ⟨c0, c1, c2, f0, f1, f2⟩ := hb.cells
  have hne : (er != 0) = true := bne_t he
  have HB := Lib.hid hb
  simp only at c1 c2
  clear he hb
  go_enter Tryz.func143, Tryz.ntmps143
  go_wp2
  go_ret
  exact ⟨rfl, HB.out, Only.refl _ _⟩

set_option maxRecDepth 100000 in
set_option maxHeartbeats 2000000 in
theorem rdNumber (g : Nat) (v : Value) (xs : List Int) (s : St) (w : World) (hb : RdrB w g v s) (h : Rd w v xs) (hu : s.1 ≤ xs.length) :
    Calls Tryz.prog 123 #[.pointer (some ⟨g, 0, none⟩)] w fun e w' => e = .returned (.int .i64 (JM.step xs s).1) ∧ RdrB w' g v (JM.step xs s).2 ∧ Only g w w' := by
  have HC : Hid (Calls Tryz.prog 143 #[.pointer (some ⟨g, 0, none⟩), .func (.func 144) #[] #[]] w fun e w' => e = .returned (.int .i64 (JM.step xs s).1) ∧ RdrB w' g v (JM.step xs s).2 ∧ Only g w w') := by
    refine Lib.hid ?_
    obtain ⟨u, er⟩ := s
    by_cases he : er = 0
    · subst he
      obtain ⟨ad, cp, rfl, hcp⟩ := h.shape
      obtain ⟨v2, hcut, hrd⟩ := h.cutL u hu
      have hHD := fun n => (cNumber v2 _ (w.drewN n) hrd).mono (fun e w' (h : _ ∧ _) => (⟨h.1, n, h.2⟩ : _ ∧ ∃ k, w' = w.drewN k))
      have hxd : (xs.drop u).length = xs.length - u := List.length_drop
      simp only at hu
      rcases JM.num_two (xs.drop u) hrd.bytes with ⟨e1, he1, hd⟩ | ⟨m, hm, hd, hml⟩
      · have HS : JM.step xs (u, 0) = (0, (u, e1)) := by unfold JM.step; rw [if_neg (by simp), hd, if_pos (show ¬ e1 = 0 by omega)]
        rw [HS]
        rw [hd] at hHD
        have := rdReadI g _ v2 xs u w hb h 144 0 0 e1 hcut (fun _ _ => rfl) (fun n => hHD n) (by omega)
        exact this
      · have HS : JM.step xs (u, 0) = ((m : Int), (u + (WM.enc m).length, 0)) := by unfold JM.step; rw [if_neg (by simp), hd, if_neg (by simp)]; rfl
        rw [HS]
        rw [hd] at hHD
        exact rdReadI g _ v2 xs u w hb h 144 m _ 0 hcut (fun _ _ => rfl) (fun n => hHD n) (by omega)
    · rw [JM.step_stop he]
      exact rdStopI g v u er w hb he _
  clear hb h hu
  generalize JM.step xs s = p at HC
  obtain ⟨x, s'⟩ := p
  go_enter Tryz.func123, Tryz.ntmps123
  go_wp2_with fail
  refine HC.out.mono ?_
  rintro e w1 ⟨rfl, hr, ho⟩
  clear HC
  go_wp2
  go_ret
  exact ⟨rfl, hr, ho⟩

/-- What a run of the reader keeps, seen from the world in which the input was laid. -/
theorem seen {g : Nat} {W w w' : World} (hb : Below W.heap.size W w) (hg : W.heap.size ≤ g) (h : Only g w w') : Below W.heap.size W w' := hb.trans (h.below hg hb.size)

set_option maxRecDepth 100000 in
set_option maxHeartbeats 1000000 in
theorem rdCount (g : Nat) (v : Value) (xs : List Int) (s : St) (w : World) (hb : RdrB w g v s) (h : Rd w v xs) (hu : s.1 ≤ xs.length) :
    Calls Tryz.prog 124 #[.pointer (some ⟨g, 0, none⟩), .int .i64 6] w fun e w' => e = .returned (.int .i64 (if 6 < (JM.step xs s).1 then 0 else (JM.step xs s).1)) ∧ RdrB w' g v (if 6 < (JM.step xs s).1 then ((JM.step xs s).2.1, 3) else (JM.step xs s).2) ∧ Only g w w' := by
  have HN := Lib.hid (rdNumber g v xs s w hb h hu)
  generalize JM.step xs s = p at HN
  obtain ⟨x, s'⟩ := p
  clear hb h hu
  by_cases hx : 6 < x
  · simp only [if_pos hx]
    go_enter Tryz.func124, Tryz.ntmps124
    go_wp2_with fail
    refine HN.out.mono ?_
    rintro e w1 ⟨rfl, hr, ho⟩
    obtain ⟨u, er⟩ := s'
    have c0 := hr.cells
    obtain ⟨c0, c1, c2, f0, f1, f2⟩ := c0
    have HF := Lib.hid (RdrB.fail hr 3)
    have HO := Lib.hid ho
    clear hr ho HN
    go_wp2
    go_ret
    exact ⟨rfl, HF.out, HO.out.trans (Only.set 2 _)⟩
  · simp only [if_neg hx]
    have hx : decide (6 < x) = false := decide_eq_false hx
    go_enter Tryz.func124, Tryz.ntmps124
    go_wp2_with fail
    refine HN.out.mono ?_
    rintro e w1 ⟨rfl, hr, ho⟩
    clear HN
    go_wp2
    go_ret
    exact ⟨rfl, hr, ho⟩

theorem many7 {xs : List Int} {s s1 s2 s3 s4 s5 s6 s7 : St} {x1 x2 x3 x4 x5 x6 x7 : Int} (h1 : JM.step xs s = (x1, s1)) (h2 : JM.step xs s1 = (x2, s2)) (h3 : JM.step xs s2 = (x3, s3)) (h4 : JM.step xs s3 = (x4, s4)) (h5 : JM.step xs s4 = (x5, s5)) (h6 : JM.step xs s5 = (x6, s6)) (h7 : JM.step xs s6 = (x7, s7)) :
    JM.many xs s 7 = ([x1, x2, x3, x4, x5, x6, x7], s7) := by
  simp [JM.many, h1, h2, h3, h4, h5, h6, h7]

theorem chg_ret {R : Ending → World → Prop} {a : Act} {w : World} {g : Nat} {k s t v x y z : Int} (hp : a.tmps.getD 2 undef = .pointer (some ⟨g, 0, none⟩)) (hg : w.heap[g]? = some (.cells #[.int .i64 k, .int .i64 s, .int .i64 t, .int .i64 v, .int .i64 x, .int .i64 y, .int .i64 z] 62 (0, 0)))
    (hd : a.defers = []) (hR : R (.returned (cv k s t v x y z)) w) : bodyPost Tryz.prog Tryz.f125 R .ret a w :=
  bodyPost_ret (results_cell_row (P := Tryz.prog) rfl a.tmps w g 62 _ _ _ hp hg Tryz.underlying62 rfl (by kernel_rfl)) hd hR

theorem chg_put {w : World} {g : Nat} {a0 a1 a2 a3 a4 a5 a6 : Value} (h : w.heap[g]? = some (.cells #[a0, a1, a2, a3, a4, a5, a6] 62 (0, 0))) (b0 b1 b2 b3 b4 b5 b6 : Value) :
    (((((((w.setCell ⟨g, 0, none⟩ b0).setCell ⟨g, 1, none⟩ b1).setCell ⟨g, 2, none⟩ b2).setCell ⟨g, 3, none⟩ b3).setCell ⟨g, 4, none⟩ b4).setCell ⟨g, 5, none⟩ b5).setCell ⟨g, 6, none⟩ b6).heap[g]? = some (.cells #[b0, b1, b2, b3, b4, b5, b6] 62 (0, 0)) ∧
    Only g w (((((((w.setCell ⟨g, 0, none⟩ b0).setCell ⟨g, 1, none⟩ b1).setCell ⟨g, 2, none⟩ b2).setCell ⟨g, 3, none⟩ b3).setCell ⟨g, 4, none⟩ b4).setCell ⟨g, 5, none⟩ b5).setCell ⟨g, 6, none⟩ b6) := by
  have h1 : (w.setCell ⟨g, 0, none⟩ b0).heap[g]? = some (.cells #[b0, a1, a2, a3, a4, a5, a6] 62 (0, 0)) := heap_setCell_same w g 0 _ _ b0 h
  have o1 : Only g w (w.setCell ⟨g, 0, none⟩ b0) := Only.set 0 b0
  generalize w.setCell ⟨g, 0, none⟩ b0 = w1 at h1 o1 ⊢
  clear h
  have h2 : (w1.setCell ⟨g, 1, none⟩ b1).heap[g]? = some (.cells #[b0, b1, a2, a3, a4, a5, a6] 62 (0, 0)) := heap_setCell_same w1 g 1 _ _ b1 h1
  have o2 : Only g w (w1.setCell ⟨g, 1, none⟩ b1) := o1.trans (Only.set 1 b1)
  generalize w1.setCell ⟨g, 1, none⟩ b1 = w2 at h2 o2 ⊢
  clear h1 o1
  have h3 : (w2.setCell ⟨g, 2, none⟩ b2).heap[g]? = some (.cells #[b0, b1, b2, a3, a4, a5, a6] 62 (0, 0)) := heap_setCell_same w2 g 2 _ _ b2 h2
  have o3 : Only g w (w2.setCell ⟨g, 2, none⟩ b2) := o2.trans (Only.set 2 b2)
  generalize w2.setCell ⟨g, 2, none⟩ b2 = w3 at h3 o3 ⊢
  clear h2 o2
  have h4 : (w3.setCell ⟨g, 3, none⟩ b3).heap[g]? = some (.cells #[b0, b1, b2, b3, a4, a5, a6] 62 (0, 0)) := heap_setCell_same w3 g 3 _ _ b3 h3
  have o4 : Only g w (w3.setCell ⟨g, 3, none⟩ b3) := o3.trans (Only.set 3 b3)
  generalize w3.setCell ⟨g, 3, none⟩ b3 = w4 at h4 o4 ⊢
  clear h3 o3
  have h5 : (w4.setCell ⟨g, 4, none⟩ b4).heap[g]? = some (.cells #[b0, b1, b2, b3, b4, a5, a6] 62 (0, 0)) := heap_setCell_same w4 g 4 _ _ b4 h4
  have o5 : Only g w (w4.setCell ⟨g, 4, none⟩ b4) := o4.trans (Only.set 4 b4)
  generalize w4.setCell ⟨g, 4, none⟩ b4 = w5 at h5 o5 ⊢
  clear h4 o4
  have h6 : (w5.setCell ⟨g, 5, none⟩ b5).heap[g]? = some (.cells #[b0, b1, b2, b3, b4, b5, a6] 62 (0, 0)) := heap_setCell_same w5 g 5 _ _ b5 h5
  have o6 : Only g w (w5.setCell ⟨g, 5, none⟩ b5) := o5.trans (Only.set 5 b5)
  generalize w5.setCell ⟨g, 5, none⟩ b5 = w6 at h6 o6 ⊢
  clear h5 o5
  have h7 : (w6.setCell ⟨g, 6, none⟩ b6).heap[g]? = some (.cells #[b0, b1, b2, b3, b4, b5, b6] 62 (0, 0)) := heap_setCell_same w6 g 6 _ _ b6 h6
  have o7 : Only g w (w6.setCell ⟨g, 6, none⟩ b6) := o6.trans (Only.set 6 b6)
  generalize w6.setCell ⟨g, 6, none⟩ b6 = w7 at h7 o7 ⊢
  clear h6 o6
  exact ⟨h7, o7⟩
theorem chg_free {w : World} {g : Nat} {cs : Array Value} (h : w.heap[g]? = some (.cells cs 62 (0, 0))) (i : Nat) : w.frozen? ⟨g, i, none⟩ = false := by simp [World.frozen?, h]

set_option maxRecDepth 100000 in
set_option maxHeartbeats 4000000 in
theorem rdChange (W : World) (g : Nat) (v : Value) (xs : List Int) (s : St) (w : World) (hb : RdrB w g v s) (h : Rd W v xs) (hW : Below W.heap.size W w) (hg : W.heap.size ≤ g) (hu : s.1 ≤ xs.length) :
    Calls Tryz.prog 125 #[.pointer (some ⟨g, 0, none⟩)] w fun e w' => e = .returned (cvT (JM.toChg (JM.many xs s 7).1)) ∧ RdrB w' g v (JM.many xs s 7).2 ∧ Only g w w' := by
  have HN : Hid (∀ (s s' : St) (x : Int) (w : World), s.1 ≤ xs.length → JM.step xs s = (x, s') → RdrB w g v s → Below W.heap.size W w → Calls Tryz.prog 123 #[.pointer (some ⟨g, 0, none⟩)] w fun e w' => e = .returned (.int .i64 x) ∧ RdrB w' g v s' ∧ Only g w w') := by
    intro s s' x w hu hs hr hb
    have := rdNumber g v xs s w hr (h.below hb) hu
    rw [hs] at this
    exact this
  have hstep : ∀ (s s' : St) (x : Int), s.1 ≤ xs.length → JM.step xs s = (x, s') → s'.1 ≤ xs.length := by
    intro s s' x hu hs
    have := (JM.step_small xs s h.bytes hu).2
    rw [hs] at this
    exact this
  obtain ⟨⟨x1, s1⟩, h1⟩ : ∃ p, JM.step xs s = p := ⟨_, rfl⟩
  obtain ⟨⟨x2, s2⟩, h2⟩ : ∃ p, JM.step xs s1 = p := ⟨_, rfl⟩
  obtain ⟨⟨x3, s3⟩, h3⟩ : ∃ p, JM.step xs s2 = p := ⟨_, rfl⟩
  obtain ⟨⟨x4, s4⟩, h4⟩ : ∃ p, JM.step xs s3 = p := ⟨_, rfl⟩
  obtain ⟨⟨x5, s5⟩, h5⟩ : ∃ p, JM.step xs s4 = p := ⟨_, rfl⟩
  obtain ⟨⟨x6, s6⟩, h6⟩ : ∃ p, JM.step xs s5 = p := ⟨_, rfl⟩
  obtain ⟨⟨x7, s7⟩, h7⟩ : ∃ p, JM.step xs s6 = p := ⟨_, rfl⟩
  have u1 := hstep _ _ _ hu h1
  have u2 := hstep _ _ _ u1 h2
  have u3 := hstep _ _ _ u2 h3
  have u4 := hstep _ _ _ u3 h4
  have u5 := hstep _ _ _ u4 h5
  have u6 := hstep _ _ _ u5 h6
  rw [many7 h1 h2 h3 h4 h5 h6 h7]
  show Calls _ _ _ _ fun e w' => e = .returned (cv x1 x2 x3 x4 x5 x6 x7) ∧ RdrB w' g v s7 ∧ Only g w w'
  have N1 : Hid (∀ w, RdrB w g v s → Below W.heap.size W w → Calls Tryz.prog 123 #[.pointer (some ⟨g, 0, none⟩)] w fun e w' => e = .returned (.int .i64 x1) ∧ RdrB w' g v s1 ∧ Only g w w') := fun w => HN.out _ _ _ w hu h1
  have N2 : Hid (∀ w, RdrB w g v s1 → Below W.heap.size W w → Calls Tryz.prog 123 #[.pointer (some ⟨g, 0, none⟩)] w fun e w' => e = .returned (.int .i64 x2) ∧ RdrB w' g v s2 ∧ Only g w w') := fun w => HN.out _ _ _ w u1 h2
  have N3 : Hid (∀ w, RdrB w g v s2 → Below W.heap.size W w → Calls Tryz.prog 123 #[.pointer (some ⟨g, 0, none⟩)] w fun e w' => e = .returned (.int .i64 x3) ∧ RdrB w' g v s3 ∧ Only g w w') := fun w => HN.out _ _ _ w u2 h3
  have N4 : Hid (∀ w, RdrB w g v s3 → Below W.heap.size W w → Calls Tryz.prog 123 #[.pointer (some ⟨g, 0, none⟩)] w fun e w' => e = .returned (.int .i64 x4) ∧ RdrB w' g v s4 ∧ Only g w w') := fun w => HN.out _ _ _ w u3 h4
  have N5 : Hid (∀ w, RdrB w g v s4 → Below W.heap.size W w → Calls Tryz.prog 123 #[.pointer (some ⟨g, 0, none⟩)] w fun e w' => e = .returned (.int .i64 x5) ∧ RdrB w' g v s5 ∧ Only g w w') := fun w => HN.out _ _ _ w u4 h5
  have N6 : Hid (∀ w, RdrB w g v s5 → Below W.heap.size W w → Calls Tryz.prog 123 #[.pointer (some ⟨g, 0, none⟩)] w fun e w' => e = .returned (.int .i64 x6) ∧ RdrB w' g v s6 ∧ Only g w w') := fun w => HN.out _ _ _ w u5 h6
  have N7 : Hid (∀ w, RdrB w g v s6 → Below W.heap.size W w → Calls Tryz.prog 123 #[.pointer (some ⟨g, 0, none⟩)] w fun e w' => e = .returned (.int .i64 x7) ∧ RdrB w' g v s7 ∧ Only g w w') := fun w => HN.out _ _ _ w u6 h7
  have hgl : g < w.heap.size := (Array.getElem?_eq_some_iff.1 hb).1
  obtain ⟨Z, hZ⟩ : ∃ Z, Z = Obj.cells #[.int .i64 0, .int .i64 0, .int .i64 0, .int .i64 0, .int .i64 0, .int .i64 0, .int .i64 0] 62 := ⟨_, rfl⟩
  have hfr := below_fresh w Z
  have hzb : (w.alloc Z).heap[w.heap.size]? = some Z := heap_alloc_new w _
  have HBN := Lib.hid (bnext hW hfr)
  have HRN := Lib.hid (show RdrB (w.alloc Z) g v s by unfold RdrB; rw [hfr.block g hgl]; exact hb)
  have HFR := Lib.hid (Only.of (g := g) hfr)
  have HZB := Lib.hid hzb
  have HZ := Lib.hid hZ
  have HGL := Lib.hid hgl
  have HGW := Lib.hid hg
  clear hb h hW hg hu hstep h1 h2 h3 h4 h5 h6 h7 u1 u2 u3 u4 u5 u6 HN hfr hzb hZ hgl
  go_enter Tryz.func125, Tryz.ntmps125
  go_wp2_with fail
  rw [← HZ.out]
  generalize w.alloc Z = w0 at HBN HRN HFR HZB ⊢
  refine (N1.out _ HRN.out HBN.out).mono ?_
  rintro e w1 ⟨rfl, hr, ho⟩
  have HB1 := Lib.hid (seen HBN.out HGW.out ho)
  have HO1 := Lib.hid ho
  have HR1 := Lib.hid hr
  clear hr ho N1
  go_wp2_with fail
  refine (N2.out _ HR1.out HB1.out).mono ?_
  rintro e w2 ⟨rfl, hr, ho⟩
  have HB2 := Lib.hid (seen HB1.out HGW.out ho)
  have HO2 := Lib.hid (HO1.out.trans ho)
  have HR2 := Lib.hid hr
  clear hr ho N2
  go_wp2_with fail
  refine (N3.out _ HR2.out HB2.out).mono ?_
  rintro e w3 ⟨rfl, hr, ho⟩
  have HB3 := Lib.hid (seen HB2.out HGW.out ho)
  have HO3 := Lib.hid (HO2.out.trans ho)
  have HR3 := Lib.hid hr
  clear hr ho N3
  go_wp2_with fail
  refine (N4.out _ HR3.out HB3.out).mono ?_
  rintro e w4 ⟨rfl, hr, ho⟩
  have HB4 := Lib.hid (seen HB3.out HGW.out ho)
  have HO4 := Lib.hid (HO3.out.trans ho)
  have HR4 := Lib.hid hr
  clear hr ho N4
  go_wp2_with fail
  refine (N5.out _ HR4.out HB4.out).mono ?_
  rintro e w5 ⟨rfl, hr, ho⟩
  have HB5 := Lib.hid (seen HB4.out HGW.out ho)
  have HO5 := Lib.hid (HO4.out.trans ho)
  have HR5 := Lib.hid hr
  clear hr ho N5
  go_wp2_with fail
  refine (N6.out _ HR5.out HB5.out).mono ?_
  rintro e w6 ⟨rfl, hr, ho⟩
  have HB6 := Lib.hid (seen HB5.out HGW.out ho)
  have HO6 := Lib.hid (HO5.out.trans ho)
  have HR6 := Lib.hid hr
  clear hr ho N6
  go_wp2_with fail
  refine (N7.out _ HR6.out HB6.out).mono ?_
  rintro e w7 ⟨rfl, hr, ho⟩
  have hne : w.heap.size ≠ g := Nat.ne_of_gt HGL.out
  have hz7 : w7.heap[w.heap.size]? = some (.cells #[.int .i64 0, .int .i64 0, .int .i64 0, .int .i64 0, .int .i64 0, .int .i64 0, .int .i64 0] 62) := by
    rw [← HZ.out]; exact (HO6.out.trans ho).at HZB.out hne
  have HPUT := Lib.hid (chg_put hz7 (.int .i64 x1) (.int .i64 x2) (.int .i64 x3) (.int .i64 x4) (.int .i64 x5) (.int .i64 x6) (.int .i64 x7))
  obtain ⟨z0, z1, z2, z3, z4, z5, z6⟩ := CBox.of hz7
  have f0 := chg_free hz7 0
  have f1 := chg_free hz7 1
  have f2 := chg_free hz7 2
  have f3 := chg_free hz7 3
  have f4 := chg_free hz7 4
  have f5 := chg_free hz7 5
  have f6 := chg_free hz7 6
  have HO7 := Lib.hid (HFR.out.trans (HO6.out.trans ho))
  have HR7 := Lib.hid hr
  have HN7 := Lib.hid hne
  have HZ7 := Lib.hid hz7
  clear hr ho N7 hne hz7 HO1 HO2 HO3 HO4 HO5 HO6 HR1 HR2 HR3 HR4 HR5 HR6 HB1 HB2 HB3 HB4 HB5 HB6 HZB HZ
  go_wp2
  refine chg_ret rfl HPUT.out.1 rfl ⟨rfl, ?_, ?_⟩
  · exact HPUT.out.2.at HR7.out (Ne.symm HN7.out)
  · have h := HPUT.out.2
    exact ⟨h.os.trans HO7.out.os, h.tape.trans HO7.out.tape, h.output.trans HO7.out.output, Nat.le_trans HO7.out.size h.size,
      fun k hk hne => (h.block k (Nat.lt_of_lt_of_le hk HO7.out.size) (Nat.ne_of_lt hk)).trans (HO7.out.block k hk hne)⟩

end Go.Proofs.YtkgkhofkhjgnbaaGreat

namespace Go.Proofs.YtkgkhofkhjgnbaaGreat
open Go.RowKit
open JM (Chg St)

section
variable {α : Type} {P : Program} {t e : TypeId} {size bytes : Nat} {enc : α → List Value}
variable {w : World} {ops : Array Oper} {o : Oper} {a : Act} {K : Act → World → Prop} {Q : Exit → Act → World → Prop} {F : Prop} {base : Nat} {v : Value} {ys : List α}
/-- 'append(out, x)' as one step of a region that draws its order. -/
theorem step_appG1 (E : IsElem P t e size bytes enc) (x : α) (hgd : o.guard = none) (s r : Operand) (ho : o.op = .call { callee := .builtin .append, args := #[s, r], argTypes := #[t, t] })
    (hs : a.eval s = v) (hown : OwnG enc e size base w v ys) (hx : a.eval r = .slice (some ⟨w.heap.size, 0, none⟩) 1 1) (hlen : ys.length ≤ 1073741824) (hb : base ≤ w.heap.size)
    (h : ∀ v' w', OwnG enc e size base w' v' (ys ++ [x]) → Below base w w' → KeepsX e w w' → K (a.put o.dst v') w') :
    if Region.wanted o (yielded ops a.tmps) = true then Oper.wp P o a (w.alloc (.cells (enc x).toArray e)) K Q else F := by
  obtain ⟨i0, z, hi, hz0, hz1, hz2, hz3⟩ := E.info
  have hown' := World.ownsRow.alloc hown.1 (.cells (enc x).toArray e)
  refine step_append_lies (w := w.alloc (.cells (enc x).toArray e)) hgd s r t ho base e i0 z size bytes E.ht hi hz0 hz1 hz2 hz3 E.pos _ _ _ hs hown' ⟨w.heap.size, 0, none⟩ 1 1 (enc x) hx (by rw [E.len, Nat.one_mul]) ?_ (E.one x) (by decide) ?_ ?_ ?_ _ rfl ?_
  · intro j u hu
    rw [addr_plain, Nat.zero_add, World.cell?_alloc_new]
    simpa using hu
  · unfold maxLen; omega
  · have := E.fits
    calc (ys.length + 1) * bytes ≤ (1073741824 + 1) * 4096 := Nat.mul_le_mul (by omega) this
      _ ≤ 140737488355328 := by decide
  · simp; omega
  · intro g cap w1 ho1 hg1 _ _
    have hk0 : KeepsX e w (w.alloc (.cells (enc x).toArray e)) := Below.keepsX (below_fresh w _) e
    refine h _ w1 ⟨?_, hown.2⟩ (((Below.refl _ _).alloc hb _).grown hg1 (by simp; omega) (fun k hk => (World.ownsRow.lt hown.1 k hk).1)) (hk0.trans (by simp) (keepsX_grown hown' hg1))
    rw [cellsOf_append, List.length_append]
    simpa [cellsOf] using ho1
end

/-- A proposal in a block of its own, the block written out. -/
def OP (w : World) (B : Nat) (a n : Int) (s : Value) : Prop := w.heap[B]? = some (.cells #[.int .i64 a, .int .i64 n, s] 55 (0, 0))
theorem OP.cells {w : World} {B : Nat} {a n : Int} {s : Value} (h : OP w B a n s) : w.cell? ⟨B, 0, none⟩ = some (.int .i64 a) ∧ w.cell? ⟨B, 1, none⟩ = some (.int .i64 n) ∧ w.cell? ⟨B, 2, none⟩ = some s ∧
    w.frozen? ⟨B, 0, none⟩ = false ∧ w.frozen? ⟨B, 1, none⟩ = false ∧ w.frozen? ⟨B, 2, none⟩ = false := by
  unfold OP at h
  refine ⟨?_, ?_, ?_, ?_, ?_, ?_⟩ <;> simp [World.cell?, World.frozen?, h]
theorem OP.lt {w : World} {B : Nat} {a n : Int} {s : Value} (h : OP w B a n s) : B < w.heap.size := (Array.getElem?_eq_some_iff.1 h).1
theorem OP.below {w w' : World} {B : Nat} {a n : Int} {s : Value} (h : OP w B a n s) (hb : Below w.heap.size w w') : OP w' B a n s := below_block h hb
theorem OP.keep {w w' : World} {e : TypeId} {B : Nat} {a n : Int} {s : Value} (h : OP w B a n s) (he : 55 ≠ e) (hk : KeepsX e w w') : OP w' B a n s := hk.at h he
theorem OP.only {w w' : World} {g B : Nat} {a n : Int} {s : Value} (h : OP w B a n s) (ho : Only g w w') (hne : B ≠ g) : OP w' B a n s := ho.at h hne
theorem OP.fresh (w : World) (a n : Int) (s : Value) : OP (w.alloc (.cells #[.int .i64 a, .int .i64 n, s] 55)) w.heap.size a n s := heap_alloc_new w _
theorem OP.put {w : World} {B : Nat} {a n : Int} {s : Value} (h : OP w B a n s) (u : Value) : OP (w.setCell ⟨B, 2, none⟩ u) B a n u := heap_setCell_same w B 2 _ _ u h
theorem OP.put3 {w : World} {B : Nat} {a n : Int} {s : Value} (h : OP w B a n s) (a' n' : Int) (u : Value) : OP (((w.setCell ⟨B, 0, none⟩ (.int .i64 a')).setCell ⟨B, 1, none⟩ (.int .i64 n')).setCell ⟨B, 2, none⟩ u) B a' n' u := by
  have h1 : (w.setCell ⟨B, 0, none⟩ (.int .i64 a')).heap[B]? = some (.cells #[.int .i64 a', .int .i64 n, s] 55 (0, 0)) := heap_setCell_same w B 0 _ _ _ h
  have h2 : ((w.setCell ⟨B, 0, none⟩ (.int .i64 a')).setCell ⟨B, 1, none⟩ (.int .i64 n')).heap[B]? = some (.cells #[.int .i64 a', .int .i64 n', s] 55 (0, 0)) := heap_setCell_same _ B 1 _ _ _ h1
  exact heap_setCell_same _ B 2 _ _ u h2
theorem only3 {w : World} {B : Nat} (x y z : Value) : Only B w (((w.setCell ⟨B, 0, none⟩ x).setCell ⟨B, 1, none⟩ y).setCell ⟨B, 2, none⟩ z) := ((Only.set 0 x).trans (Only.set 1 y)).trans (Only.set 2 z)
theorem RdrB.keep {w w' : World} {e : TypeId} {g : Nat} {v : Value} {s : St} (h : RdrB w g v s) (he : 153 ≠ e) (hk : KeepsX e w w') : RdrB w' g v s := hk.at h he
theorem RdrB.only {w w' : World} {B g : Nat} {v : Value} {s : St} (h : RdrB w g v s) (ho : Only B w w') (hne : g ≠ B) : RdrB w' g v s := ho.at h hne
/-- The call's own changes stay where another type's block is written. -/
theorem ownC_only {base : Nat} {w w' : World} {v : Value} {ys : List Chg} {B : Nat} {t : TypeId} {cur : Array Value} {fr : Nat × Nat} (h : OwnC base w v ys) (hB : w.heap[B]? = some (.cells cur t fr)) (ht : t ≠ 62) (ho : Only B w w') : OwnC base w' v ys := by
  refine ⟨⟨h.1.1, ?_⟩, h.2⟩
  rcases h.1.2 with h6 | ⟨gg, cap, cur', hv, hgg, hh, r⟩
  · exact .inl h6
  · exact .inr ⟨gg, cap, cur', hv, hgg, ho.at hh (by rintro rfl; rw [hB] at hh; injection hh with hh; injection hh with _ ht'; exact ht ht'), r⟩
theorem rdC_only {w w' : World} {v : Value} {ys : List Chg} {B base : Nat} {t : TypeId} {cur : Array Value} {fr : Nat × Nat} (h : OwnC base w v ys) (hB : w.heap[B]? = some (.cells cur t fr)) (ht : t ≠ 62) (ho : Only B w w') : RdC w' v ys := (ownC_only h hB ht ho).rd

theorem results_cell_tmp_tmp {P : Program} {fn : Func} {p u q : Tmp} {ty : TypeId} (h : fn.results = #[.cell p ty, .tmp u, .tmp q]) (tmps : Array Value) (w : World) (g : Nat) (t : TypeId) (cs : Array Value) (fr : Nat × Nat) (d : TypeDesc)
    (hp : tmps.getD p undef = .pointer (some ⟨g, 0, none⟩)) (hg : w.heap[g]? = some (.cells cs t fr))
    (hu : P.underlying ty = some d) (hd : (match d with | .struct _ | .array _ _ => true | _ => false) = true) (hi : (P.info? ty).map (·.size) = some cs.size) :
    (results fn tmps).run P w = .ok (.tuple #[.agg cs, tmps.getD u undef, tmps.getD q undef]) w := by
  have hp' : tmps[p]?.getD undef = .pointer (some ⟨g, 0, none⟩) := by simpa using hp
  simp [results, h, hp', asAddr, run_loadVar_row w g t ty cs fr d hg hu hd hi, Result.andThen]

end Go.Proofs.YtkgkhofkhjgnbaaGreat

namespace Go.Proofs.YtkgkhofkhjgnbaaGreat
open Go.RowKit
open JM (Chg St)

theorem errE : IsElem Tryz.prog 179 132 1 8 encI where
  ht := Tryz.underlying179
  info := by
    obtain ⟨i0, hi, hz0, hz1, hz2⟩ := info_parts (show (Tryz.prog.info? 132).map (fun i => (i.zero, i.size, i.bytes)) = some (some (.int .i64 0), 1, 8) by kernel_rfl)
    exact ⟨i0, _, hi, hz0, hz1, hz2, rfl⟩
  len := fun _ => rfl
  one := by intro x u hu; simp [encI] at hu; subst hu; rfl
  pos := by decide
  fits := by decide
theorem atEr {w : World} {a : Option Addr} {n c : Nat} {xs : List Int} (h : RdI w (.slice a n c) xs) (k : Nat) (x : Int) (hk : xs[k]? = some x) :
    ∃ b o, (∀ w0, (Instr.indexAt 179 (.slice a n c) (.int .i64 (k : Int))).run Tryz.prog w0 = .ok (.pointer (some ⟨b, o, none⟩)) w0) ∧ b < w.heap.size ∧ w.cell? ⟨b, o, none⟩ = some (.int .i64 x) := by
  obtain ⟨b, o, h1, h2, h3⟩ := h.at_ errE k x hk
  exact ⟨b, o, h1, h2, h3 0 _ rfl⟩

def orL : List Int → Int
  | [] => 0
  | x :: l => if x = 0 then orL l else x

set_option maxRecDepth 100000 in
set_option maxHeartbeats 1000000 in
theorem cOrE (v : Value) (xs : List Int) (w : World) (h : RdI w v xs) : Calls Tryz.prog 126 #[v] w fun e w' => e = .returned (.int .i64 (orL xs)) ∧ w = w' := by
  obtain ⟨ad, c, rfl, hc, hl⟩ := h.shape
  have H := Lib.hid h
  clear h
  obtain ⟨R, hR⟩ : ∃ R, R = orL xs := ⟨_, rfl⟩
  rw [← hR]
  have HR := Lib.hid (show R = orL (xs.drop 0) from hR)
  clear hR
  go_enter Tryz.func126, Tryz.ntmps126
  go_wp2
  go_loop [8] (fun i => ∃ k : Nat, k ≤ xs.length ∧ i = .int .i64 k ∧ Hid (R = orL (xs.drop k))) (fun i => xs.length - (intOf i).toNat)
  case atStart => exact ⟨0, Nat.zero_le _, rfl, HR⟩
  case round =>
    obtain ⟨k, hk, rfl, he⟩ := hrel
    clear HR
    by_cases hlt : k < xs.length
    · obtain ⟨b, o, hi, hb, c0⟩ := atEr H.out k xs[k] (List.getElem?_eq_getElem hlt)
      have hq : (k : Int) < (xs.length : Int) := by omega
      have hdx := Lib.hid (drop_get hlt)
      generalize xs[k] = x at c0 hdx
      by_cases h0 : x = 0
      · have e2 := Lib.hid (show R = orL (xs.drop (k + 1)) by rw [he.out, hdx.out, orL, if_pos h0])
        subst h0
        clear he hdx
        go_wp2
        go_round
        case rel => exact ⟨k + 1, by omega, by go_num, e2⟩
        case measure => simp [intOf]; omega
      · have e2 := Lib.hid (show R = x by rw [he.out, hdx.out, orL, if_neg h0])
        have hne : (x != 0) = true := bne_t h0
        clear he hdx h0
        go_wp2
        go_ret
        rw [e2.out]
        exact ⟨rfl, rfl⟩
    · have hq : ¬ ((k : Int) < (xs.length : Int)) := by omega
      have e2 := Lib.hid (show R = 0 by rw [he.out, List.drop_of_length_le (by omega)]; rfl)
      clear he
      go_wp2
      go_ret
      rw [e2.out]
      exact ⟨rfl, rfl⟩

theorem rd2e (w : World) (x y : Int) : RdI (w.alloc (.cells #[.int .i64 x, .int .i64 y] 132)) (.slice (some ⟨w.heap.size, 0, none⟩) 2 2) [x, y] := (ownG_fresh hlI 132 w [x, y] (by unfold maxLen; simp)).rd

/-- What Decode makes of what has been read. -/
def fin (a n : Int) (p : List Chg × St) : Int × Nat × Int × Int × List Chg :=
  if p.2.2 ≠ 0 then JM.bad p.2.2 else if JM.errP a n p.1 ≠ 0 then JM.bad (JM.errP a n p.1) else (0, p.2.1, a, n, p.1)
theorem many3 {xs : List Int} {s s1 s2 s3 : St} {x1 x2 x3 : Int} (h1 : JM.step xs s = (x1, s1)) (h2 : JM.step xs s1 = (x2, s2)) (h3 : JM.step xs s2 = (x3, s3)) : JM.many xs s 3 = ([x1, x2, x3], s3) := by
  simp [JM.many, h1, h2, h3]
theorem step_zero {xs : List Int} {s s' : St} {x : Int} (h : JM.step xs s = (x, s')) (hx : 0 < x) : s'.2 = 0 := by
  unfold JM.step at h
  split at h
  · cases h; omega
  split at h
  · cases h; omega
  · cases h; rfl
theorem decP_run {xs : List Int} {s1 s2 s3 : St} {x1 x2 x3 : Int} (h1 : JM.step xs (0, 0) = (x1, s1)) (h2 : JM.step xs s1 = (x2, s2)) (h3 : JM.step xs s2 = (x3, s3)) :
    JM.decP xs = fin x1 x2 (JM.chs xs (if 6 < x3 then (s3.1, 3) else s3) (if 6 < x3 then 0 else x3).toNat) := by
  have hm := many3 h1 h2 h3
  have hc : JM.cnt xs = x3 := by unfold JM.cnt; rw [hm]; rfl
  unfold JM.decP
  rw [hc, hm]
  by_cases h6 : 6 < x3
  · have hz := step_zero h3 (by omega)
    simp only [if_pos h6]
    rw [if_neg (by rw [hz]; simp)]
    rfl
  · simp only [if_neg h6]
    by_cases hs : s3.2 = 0
    · rw [if_neg (by rw [hs]; simp)]
      rfl
    · rw [if_pos hs]
      unfold fin
      rw [JM.chs_stop hs, if_pos hs]

theorem dec_ret {R : Ending → World → Prop} {a : Act} {w : World} {g : Nat} {x n : Int} {s : Value} {u er : Int} (hp : a.tmps.getD 2 undef = .pointer (some ⟨g, 0, none⟩)) (h3 : a.tmps.getD 3 undef = .int .i64 u) (h4 : a.tmps.getD 4 undef = .int .i64 er) (hg : OP w g x n s)
    (hd : a.defers = []) (hR : R (.returned (.tuple #[pv x n s, .int .i64 u, .int .i64 er])) w) : bodyPost Tryz.prog Tryz.f94 R .ret a w := by
  have := results_cell_tmp_tmp (P := Tryz.prog) (fn := Tryz.f94) rfl a.tmps w g 55 _ _ _ hp hg Tryz.underlying55 rfl (by kernel_rfl)
  rw [h3, h4] at this
  exact bodyPost_ret this hd hR

set_option maxRecDepth 100000 in
set_option maxHeartbeats 4000000 in
theorem cDecode (v : Value) (xs : List Int) (w : World) (h : Rd w v xs) :
    Calls Tryz.prog 94 #[v] w fun e w' => ∃ sv, e = .returned (.tuple #[pv (JM.decP xs).2.2.1 (JM.decP xs).2.2.2.1 sv, .int .i64 ((JM.decP xs).2.1 : Int), .int .i64 (JM.decP xs).1]) ∧ RdC w' sv (JM.decP xs).2.2.2.2 ∧ Below w.heap.size w w' := by
  have hby := h.bytes
  obtain ⟨⟨x1, s1⟩, h1⟩ : ∃ p, JM.step xs (0, 0) = p := ⟨_, rfl⟩
  obtain ⟨⟨x2, s2⟩, h2⟩ : ∃ p, JM.step xs s1 = p := ⟨_, rfl⟩
  obtain ⟨⟨x3, s3⟩, h3⟩ : ∃ p, JM.step xs s2 = p := ⟨_, rfl⟩
  have u1 : s1.1 ≤ xs.length := by have := (JM.step_small xs (0, 0) hby (Nat.zero_le _)).2; rw [h1] at this; exact this
  have u2 : s2.1 ≤ xs.length := by have := (JM.step_small xs s1 hby u1).2; rw [h2] at this; exact this
  have u3 : s3.1 ≤ xs.length := by have := (JM.step_small xs s2 hby u2).2; rw [h3] at this; exact this
  have hx3 : JM.small x3 := by have := (JM.step_small xs s2 hby u2).1; rw [h3] at this; exact this
  rw [decP_run h1 h2 h3]
  obtain ⟨q, hq⟩ : ∃ q : St, q = if 6 < x3 then (s3.1, 3) else s3 := ⟨_, rfl⟩
  obtain ⟨C, hC⟩ : ∃ C : Nat, C = (if 6 < x3 then 0 else x3).toNat := ⟨_, rfl⟩
  have hCi : (if 6 < x3 then 0 else x3) = (C : Int) := by unfold JM.small at hx3; rw [hC]; split <;> omega
  have hC6 : C ≤ 6 := by rw [hC]; split <;> omega
  have huq : q.1 ≤ xs.length := by rw [hq]; split <;> exact u3
  rw [← hq, ← hC]
  obtain ⟨R, hR⟩ : ∃ R, R = fin x1 x2 (JM.chs xs q C) := ⟨_, rfl⟩
  rw [← hR]
  have HR := Lib.hid hR
  clear hR
  obtain ⟨ZP, hZP⟩ : ∃ Z, Z = Obj.cells #[.int .i64 0, .int .i64 0, .slice none 0 0] 55 := ⟨_, rfl⟩
  obtain ⟨ZR, hZR⟩ : ∃ Z, Z = Obj.cells #[v, .int .i64 0, .int .i64 0] 153 := ⟨_, rfl⟩
  have b0 := below_fresh w ZP
  have hP0 : OP (w.alloc ZP) w.heap.size 0 0 (.slice none 0 0) := by rw [hZP]; exact OP.fresh w 0 0 _
  have hs0 := World.size_alloc w ZP
  have b1 := below_fresh (w.alloc ZP) ZR
  have hR1 : RdrB ((w.alloc ZP).alloc ZR) (w.heap.size + 1) v (0, 0) := by rw [hZR, ← hs0]; exact heap_alloc_new (w.alloc ZP) _
  have hP1 := hP0.below b1
  have hB1 := bnext b0 b1
  generalize hw1 : (w.alloc ZP).alloc ZR = w1 at hB1 hR1 hP1
  have HW1 := Lib.hid hw1
  have HZP := Lib.hid hZP
  have HZR := Lib.hid hZR
  have HB1 := Lib.hid hB1
  have HR1 := Lib.hid hR1
  have HP1 := Lib.hid hP1
  have HV := Lib.hid h
  have N1 : Hid (∀ w', RdrB w' (w.heap.size + 1) v (0, 0) → Below w.heap.size w w' → Calls Tryz.prog 123 #[.pointer (some ⟨w.heap.size + 1, 0, none⟩)] w' fun e w'' => e = .returned (.int .i64 x1) ∧ RdrB w'' (w.heap.size + 1) v s1 ∧ Only (w.heap.size + 1) w' w'') := by
    intro w' hr hb
    have := rdNumber _ v xs (0, 0) w' hr (h.below hb) (Nat.zero_le _)
    rw [h1] at this; exact this
  have N2 : Hid (∀ w', RdrB w' (w.heap.size + 1) v s1 → Below w.heap.size w w' → Calls Tryz.prog 123 #[.pointer (some ⟨w.heap.size + 1, 0, none⟩)] w' fun e w'' => e = .returned (.int .i64 x2) ∧ RdrB w'' (w.heap.size + 1) v s2 ∧ Only (w.heap.size + 1) w' w'') := by
    intro w' hr hb
    have := rdNumber _ v xs s1 w' hr (h.below hb) u1
    rw [h2] at this; exact this
  have N3 : Hid (∀ w', RdrB w' (w.heap.size + 1) v s2 → Below w.heap.size w w' → Calls Tryz.prog 124 #[.pointer (some ⟨w.heap.size + 1, 0, none⟩), .int .i64 6] w' fun e w'' => e = .returned (.int .i64 (C : Int)) ∧ RdrB w'' (w.heap.size + 1) v q ∧ Only (w.heap.size + 1) w' w'') := by
    intro w' hr hb
    have := rdCount _ v xs s2 w' hr (h.below hb) u2
    rw [h3] at this
    simp only at this
    rw [hCi, ← hq] at this
    exact this
  have N4 : Hid (∀ (k : Nat) w', RdrB w' (w.heap.size + 1) v (JM.chs xs q k).2 → Below w.heap.size w w' → Calls Tryz.prog 125 #[.pointer (some ⟨w.heap.size + 1, 0, none⟩)] w' fun e w'' => e = .returned (cvT (JM.toChg (JM.many xs (JM.chs xs q k).2 7).1)) ∧ RdrB w'' (w.heap.size + 1) v (JM.chs xs q (k + 1)).2 ∧ Only (w.heap.size + 1) w' w'') := by
    intro k w' hr hb
    exact rdChange w _ v xs _ w' hr h hb (Nat.le_succ _) (JM.chs_used xs q hby huq k)
  have hlg : w.heap.size + 1 < w1.heap.size := (Array.getElem?_eq_some_iff.1 hR1).1
  have HLG := Lib.hid hlg
  clear h hby h1 h2 h3 u1 u2 u3 hx3 hq hC hCi huq hZP hZR b0 hP0 hs0 b1 hR1 hP1 hB1 hw1 hlg
  obtain ⟨av, nv, cv', rfl⟩ : ∃ a n c, v = .slice a n c := by obtain ⟨a, c, hv, _⟩ := HV.out.shape; exact ⟨_, _, _, hv⟩
  go_enter Tryz.func94, Tryz.ntmps94
  go_wp2_with fail
  rw [← HZP.out, ← HZR.out, HW1.out]
  refine (N1.out _ HR1.out HB1.out).mono ?_
  rintro e w2 ⟨rfl, hr, ho⟩
  have HB2 := Lib.hid (seen HB1.out (Nat.le_succ _) ho)
  have HP2 := Lib.hid (HP1.out.only ho (by omega))
  have HL2 := Lib.hid (Nat.lt_of_lt_of_le HLG.out ho.size)
  have HR2 := Lib.hid hr
  clear hr ho N1 HR1 HP1 HB1 HLG HW1 HZR
  go_wp2_with fail
  refine (N2.out _ HR2.out HB2.out).mono ?_
  rintro e w3 ⟨rfl, hr, ho⟩
  have HB3 := Lib.hid (seen HB2.out (Nat.le_succ _) ho)
  have HP3 := Lib.hid (HP2.out.only ho (by omega))
  have HL3 := Lib.hid (Nat.lt_of_lt_of_le HL2.out ho.size)
  have HR3 := Lib.hid hr
  clear hr ho N2 HR2 HP2 HB2 HL2
  go_wp2_with fail
  have b4 := below_fresh w3 (.cells #[.int .i64 x1, .int .i64 x2, .slice none 0 0] 55)
  have hX4 := OP.fresh w3 x1 x2 (.slice none 0 0)
  have hP4 := HP3.out.below b4
  have hR4 : RdrB (w3.alloc (.cells #[.int .i64 x1, .int .i64 x2, .slice none 0 0] 55)) (w.heap.size + 1) _ s2 := below_block HR3.out b4
  have hB4 := bnext HB3.out b4
  generalize w3.alloc (.cells #[.int .i64 x1, .int .i64 x2, .slice none 0 0] 55) = w4 at b4 hX4 hP4 hR4 hB4 ⊢
  obtain ⟨pb, hpb⟩ : ∃ pb, pb = w3.heap.size := ⟨_, rfl⟩
  rw [← hpb] at hX4 ⊢
  have HPB := Lib.hid (show w.heap.size + 1 < pb by rw [hpb]; exact HL3.out)
  have hne : pb ≠ w.heap.size + 1 := Nat.ne_of_gt HPB.out
  refine (N3.out _ hR4 hB4).mono ?_
  rintro e w5 ⟨rfl, hr, ho⟩
  have HX5 := Lib.hid (hX4.only ho hne)
  have HP5 := Lib.hid (hP4.only ho (by omega))
  have HR5 := Lib.hid hr
  have HB5 := Lib.hid (seen hB4 (Nat.le_succ _) ho)
  clear hr ho N3 HR3 HP3 HB3 HL3 b4 hX4 hP4 hR4 hB4 hne hpb
  go_wp2
  go_loopw [14] (fun i wr => ∃ (k : Nat) (sv : Value), k ≤ C ∧ i = .int .i64 k ∧ Hid (RdrB wr (w.heap.size + 1) (.slice av nv cv') (JM.chs xs q k).2) ∧ Hid (OP wr pb x1 x2 sv) ∧ Hid (OP wr w.heap.size 0 0 (.slice none 0 0)) ∧ Hid (OwnC w.heap.size wr sv (JM.chs xs q k).1) ∧ Hid (Below w.heap.size w wr)) (fun i _ => C - (intOf i).toNat)
  case atStart => exact ⟨0, _, Nat.zero_le _, rfl, HR5.out, HX5.out, HP5.out, OwnG.nil hlC _ _ _, HB5.out⟩
  case round =>
    obtain ⟨k, sv, hk, rfl, hr, hx, hp, ho, hb⟩ := hrel
    clear HR5 HX5 HP5 HB5
    by_cases hlt : k < C
    · have hq2 : (k : Int) < (C : Int) := by omega
      obtain ⟨⟨k', s', t', v', a', b', c'⟩, hy⟩ : ∃ y, JM.toChg (JM.many xs (JM.chs xs q k).2 7).1 = y := ⟨_, rfl⟩
      have hyl := JM.chs_length xs q k
      have hsn : (JM.chs xs q (k + 1)).1 = (JM.chs xs q k).1 ++ [(k', s', t', v', a', b', c')] := by
        show (JM.chs xs q k).1 ++ [JM.toChg (JM.many xs (JM.chs xs q k).2 7).1] = _
        rw [hy]
      have hcall := N4.out k
      rw [hy] at hcall
      have HC : Hid (∀ w', RdrB w' (w.heap.size + 1) (.slice av nv cv') (JM.chs xs q k).2 → Below w.heap.size w w' → Calls Tryz.prog 125 #[.pointer (some ⟨w.heap.size + 1, 0, none⟩)] w' fun e w'' => e = .returned (cv k' s' t' v' a' b' c') ∧ RdrB w'' (w.heap.size + 1) (.slice av nv cv') (JM.chs xs q (k + 1)).2 ∧ Only (w.heap.size + 1) w' w'') := hcall
      have HSN := Lib.hid hsn
      clear hy hcall hsn
      generalize (JM.chs xs q k).1 = ys at ho hyl HSN
      obtain ⟨asv, csv, rfl, hcsv, _⟩ := ho.out.rd.shape
      have hyb : ys.length ≤ 1073741824 := by omega
      rw [hyl] at hx ho
      have HYB := Lib.hid hyb
      have HYL := Lib.hid hyl
      have c0 : wr.drew.cell? ⟨pb, 2, none⟩ = some (.slice asv k csv) := hx.out.cells.2.2.1
      have hpn : pb ≠ w.heap.size + 1 := Nat.ne_of_gt HPB.out
      have HPN := Lib.hid hpn
      clear hyb hyl hpn
      have A5 : Hid (∀ w5, Only (w.heap.size + 1) wr.drew w5 → OP w5 pb x1 x2 (.slice asv k csv) ∧ OP w5 w.heap.size 0 0 (.slice none 0 0) ∧ OwnC w.heap.size w5 (.slice asv k csv) ys ∧ Below w.heap.size w w5) := by
        intro w5 ho5
        have hx' : OP wr.drew pb x1 x2 (.slice asv k csv) := hx.out
        have hp' : OP wr.drew w.heap.size 0 0 (.slice none 0 0) := hp.out
        have ho' : OwnC w.heap.size wr.drew (.slice asv k csv) ys := ho.out
        have hr' : wr.drew.heap[w.heap.size + 1]? = some (.cells #[.slice av nv cv', .int .i64 ((JM.chs xs q k).2.1 : Int), .int .i64 (JM.chs xs q k).2.2] 153 (0, 0)) := hr.out
        have hb' : Below w.heap.size w wr.drew := hb.out.drew
        exact ⟨hx'.only ho5 HPN.out, hp'.only ho5 (Nat.ne_of_lt (Nat.lt_succ_self _)), ownC_only ho' hr' (by decide) ho5, seen hb' (Nat.le_succ _) ho5⟩
      go_wp2
      go_region_law (first
        | (go_simp; go_at_call 125; refine (HC.out wr.drew hr.out hb.out.drew).mono ?_; rintro e w5 ⟨rfl, hr5, ho5⟩; obtain ⟨hX5, hP5, hO5, hB5⟩ := A5.out w5 ho5; have HR5 := Lib.hid hr5; have HX5 := Lib.hid hX5; have HP5 := Lib.hid hP5; have HO5 := Lib.hid hO5; have HB5 := Lib.hid hB5; have hsz5 := hB5.size; have c5 := hX5.cells.2.2.1; have c6 := below_cell (below_fresh w5 (.cells #[.int .i64 k', .int .i64 s', .int .i64 t', .int .i64 v', .int .i64 a', .int .i64 b', .int .i64 c'] 62)) c5; clear hr5 ho5 hX5 hP5 hO5 hB5)
        | (refine step_appG1 chgE (k', s', t', v', a', b', c') rfl _ _ rfl rfl HO5.out rfl HYB.out hsz5 ?_; intro v6 w6 ho6 hb6 hk6; obtain ⟨av6, cv6, rfl, _, _⟩ := ho6.rd.shape; have x6 := (OP.keep (e := 62) HX5.out (by decide) hk6).cells; have x60 := x6.2.2.1; have x6f := x6.2.2.2.2.2))
      all_goals
        have hpb := HPB.out
        have hx6 : OP w6 pb x1 x2 (.slice asv k csv) := OP.keep (e := 62) HX5.out (by decide) hk6
        have hon : Only pb w6 (w6.setCell ⟨pb, 2, none⟩ (.slice av6 (ys.length + 1) cv6)) := Only.set 2 _
        have el : (ys ++ [(k', s', t', v', a', b', c')]).length = ys.length + 1 := by simp
        rw [el] at ho6
        have HX6 := Lib.hid (hx6.put (.slice av6 (ys.length + 1) cv6))
        have HP6 := Lib.hid ((OP.keep (e := 62) HP5.out (by decide) hk6).only hon (by omega))
        have HR6 := Lib.hid ((RdrB.keep (e := 62) HR5.out (by decide) hk6).only hon (by omega))
        have HO6 := Lib.hid (show OwnC w.heap.size (w6.setCell ⟨pb, 2, none⟩ (.slice av6 (ys.length + 1) cv6)) (.slice av6 (ys.length + 1) cv6) (JM.chs xs q (k + 1)).1 by rw [HSN.out]; exact ownC_only ho6 hx6 (by decide) hon)
        have HB6 := Lib.hid (seen (HB5.out.trans hb6) (by omega) hon)
        clear hx6 hon el ho6 hb6 hk6 x6 x60 x6f c0 c5 c6 hr hx hp ho hb HR5 HX5 HP5 HO5 HB5 hsz5 A5 HC hpb
        generalize w6.setCell ⟨pb, 2, none⟩ (.slice av6 (ys.length + 1) cv6) = w7 at HX6 HP6 HR6 HO6 HB6 ⊢
        go_wp2
        go_roundw
        case rel => exact ⟨k + 1, _, by omega, by go_num, HR6, HX6, HP6, HO6, HB6⟩
        case measure => simp [intOf]; omega
    · have hq2 : ¬ (k : Int) < (C : Int) := by omega
      obtain rfl : k = C := by omega
      have hyl := JM.chs_length xs q k
      have hfin := HR.out
      clear HR N4
      generalize JM.chs xs q k = p at hr ho hyl hfin
      obtain ⟨ys, u, er⟩ := p
      simp only at hyl
      obtain ⟨asv, csv, rfl, hcsv, _⟩ := ho.out.rd.shape
      obtain ⟨r0, r1, r2, _, _, _⟩ := hr.out.cells
      simp only at r1 r2
      obtain ⟨p0, p1, p2, _, _, _⟩ := hx.out.cells
      obtain ⟨o0, o1, o2, g0, g1, g2⟩ := hp.out.cells
      have hpb := HPB.out
      clear hyl
      clear r0 r1 r2 p0 p1 p2 o0 o1 o2 g0 g1 g2
      have HVL := Lib.hid (fun w' (hb : Below wr.heap.size wr w') => cValidate x1 x2 (.slice asv ys.length csv) ys w' (ho.out.below hb).rd)
      obtain ⟨EG, hEG⟩ : ∃ e, e = JM.errP x1 x2 ys := ⟨_, rfl⟩
      rw [← hEG] at HVL
      obtain ⟨EE, hEE⟩ : ∃ e, e = orL [er, EG] := ⟨_, rfl⟩
      have HOR := Lib.hid hEE.symm
      have HCO := Lib.hid (fun z l w (h : RdI w z l) => cOrE z l w h)
      have hRF : Hid ((EE = 0 → er = 0 ∧ EG = 0) ∧ (EE = 0 → R = (0, u, x1, x2, ys)) ∧ (¬ EE = 0 → R = JM.bad EE)) := Lib.hid (by
        rw [hfin, hEE]
        unfold fin orL orL orL
        rw [← hEG]
        by_cases h1 : er = 0
        · by_cases h2 : EG = 0
          · simp [h1, h2]
          · simp [h1, h2]
        · simp [h1])
      clear hfin hEG hEE
      go_wp2
      refine wp_region_held_drew (S := fun w' => Below wr.heap.size wr w') (by kernel_rfl) ((Below.refl _ _).drew) (fun ha => ?_)
      replace ha : Below wr.heap.size wr wr.drew := (Below.refl _ _).drew
      generalize wr.drew = wa at ha ⊢
      refine takeH (i := 0) (v := ?_) rfl (by kernel_rfl) (by kernel_rfl) (by kernel_rfl) (fun _ _ _ h => h) (Or.inl ⟨by rfl, ?_⟩) (by assumption) ?_
      rotate_left
      · (intro w hSw; (try dsimp only at hSw); go_simp; first | done | with_reducible rfl)
      (try simp only [Act.put, List.setIfInBounds_toArray, List.set_cons_zero, List.set_cons_succ])
      refine takeH (i := 1) (v := ?_) rfl (by kernel_rfl) (by kernel_rfl) (by kernel_rfl) (fun _ _ _ h => h) (Or.inl ⟨by rfl, ?_⟩) (by assumption) ?_
      rotate_left
      · (intro w hSw; (try dsimp only at hSw); obtain ⟨r0, r1, r2, _, _, _⟩ := RdrB.cells (show RdrB w _ _ _ from below_block hr.out hSw) ; simp only at r2; go_simp; first | done | with_reducible rfl)
      (try simp only [Act.put, List.setIfInBounds_toArray, List.set_cons_zero, List.set_cons_succ])
      refine takeH (i := 2) (v := ?_) rfl (by kernel_rfl) (by kernel_rfl) (by kernel_rfl) (fun _ _ _ h => h) (Or.inl ⟨by rfl, ?_⟩) (by assumption) ?_
      rotate_left
      · (intro w hSw; (try dsimp only at hSw); obtain ⟨p0, p1, p2, _, _, _⟩ := (hx.out.below hSw).cells; go_simp; first | done | with_reducible rfl)
      (try simp only [Act.put, List.setIfInBounds_toArray, List.set_cons_zero, List.set_cons_succ])
      refine wpAnyH_ready (rs := [3]) (by kernel_rfl) (by simp) ?_
      refine stepH rfl (fun K hK => ?_) AllReadyH.nil
      go_simp
      refine (HVL.out wa ha).mono ?_
      rintro e wb ⟨rfl, hq⟩
      have hc := bnext ha hq
      go_wp2_with fail
      refine hK.out _ _ (hc) (fun _ => ?_)
      clear hK K
      (try simp only [Act.put, List.setIfInBounds_toArray, List.set_cons_zero, List.set_cons_succ])
      have hrd := rd2e wb er EG
      refine wpAnyH_ready (rs := [4]) (by kernel_rfl) (by simp) ?_
      refine stepH rfl (fun K hK => ?_) AllReadyH.nil
      go_simp
      have hd := bnext hc (below_fresh wb (.cells #[.int .i64 er, .int .i64 EG] 132))
      refine hK.out _ _ (hd) (fun _ => ?_)
      clear hK K
      (try simp only [Act.put, List.setIfInBounds_toArray, List.set_cons_zero, List.set_cons_succ])
      generalize wb.alloc (.cells #[.int .i64 er, .int .i64 EG] 132) = wd at hd hrd ⊢
      refine wpAnyH_ready (rs := [5]) (by kernel_rfl) (by simp) ?_
      refine stepH rfl (fun K hK => ?_) AllReadyH.nil
      go_simp
      refine (HCO.out _ _ wd hrd).mono ?_
      rintro e we ⟨rfl, rfl⟩
      rw [HOR.out]
      go_wp2_with fail
      refine hK.out _ _ (hd) (fun _ => ?_)
      clear hK K
      (try simp only [Act.put, List.setIfInBounds_toArray, List.set_cons_zero, List.set_cons_succ])
      refine takeH (i := 6) (v := ?_) rfl (by kernel_rfl) (by kernel_rfl) (by kernel_rfl) (fun _ _ _ h => h) (Or.inl ⟨by rfl, ?_⟩) (by assumption) ?_
      rotate_left
      · (intro w hSw; (try dsimp only at hSw); go_simp; first | done | with_reducible rfl)
      (try simp only [Act.put, List.setIfInBounds_toArray, List.set_cons_zero, List.set_cons_succ])
      refine wpAnyH_done (by kernel_rfl) ?_ _
      have HX5 := Lib.hid (hx.out.below hd)
      have HP5 := Lib.hid (hp.out.below hd)
      have HR5 := Lib.hid (show RdrB wd (w.heap.size + 1) (.slice av nv cv') (u, er) from below_block hr.out hd)
      have HO5 := Lib.hid (ho.out.below hd)
      have HB5 := Lib.hid (bnext hb.out hd)
      clear hr hx hp ho hb ha hc hd hrd HVL HCO HOR
      by_cases hE : EE = 0
      · have HFIN := Lib.hid (hRF.out.2.1 hE)
        have HZZ := Lib.hid (hRF.out.1 hE)
        have hneb : (EE != 0) = false := by simp [hE]
        clear hRF hE
        obtain ⟨r0, r1, r2, _, _, _⟩ := HR5.out.cells
        obtain ⟨p0, p1, p2, _, _, _⟩ := HX5.out.cells
        obtain ⟨o0, o1, o2, g0, g1, g2⟩ := HP5.out.cells
        simp only at r1 r2
        have hsub : er = 0 ∧ EG = 0 := HZZ.out
        obtain ⟨he0, _⟩ := hsub
        subst he0
        go_wp2
        obtain ⟨w5, hw5⟩ : ∃ w5, w5 = wd := ⟨_, rfl⟩
        subst hw5
        refine wp_region_held_drew (S := fun w' => OP w' pb x1 x2 (.slice asv ys.length csv) ∧ RdrB w' (w.heap.size + 1) (.slice av nv cv') (u, 0)) (by kernel_rfl) ⟨HX5.out, HR5.out⟩ (fun hHeld => ?_)
        refine takeH (i := 0) (v := ?_) rfl (by kernel_rfl) (by kernel_rfl) (by kernel_rfl) (fun _ _ _ h => h) (Or.inl ⟨by rfl, ?_⟩) (by assumption) ?_
        rotate_left
        · (intro w hSw; (try dsimp only at hSw); obtain ⟨p0, p1, p2, _, _, _⟩ := hSw.1.cells; go_simp; first | done | with_reducible rfl)
        (try simp only [Act.put, List.setIfInBounds_toArray, List.set_cons_zero, List.set_cons_succ])
        refine takeH (i := 1) (v := ?_) rfl (by kernel_rfl) (by kernel_rfl) (by kernel_rfl) (fun _ _ _ h => h) (Or.inl ⟨by rfl, ?_⟩) (by assumption) ?_
        rotate_left
        · (intro w hSw; (try dsimp only at hSw); go_simp; first | done | with_reducible rfl)
        (try simp only [Act.put, List.setIfInBounds_toArray, List.set_cons_zero, List.set_cons_succ])
        refine takeH (i := 2) (v := ?_) rfl (by kernel_rfl) (by kernel_rfl) (by kernel_rfl) (fun _ _ _ h => h) (Or.inl ⟨by rfl, ?_⟩) (by assumption) ?_
        rotate_left
        · (intro w hSw; (try dsimp only at hSw); obtain ⟨r0, r1, r2, _, _, _⟩ := hSw.2.cells; simp only at r1; go_simp; first | done | with_reducible rfl)
        (try simp only [Act.put, List.setIfInBounds_toArray, List.set_cons_zero, List.set_cons_succ])
        have hs5 : OP w5.drew pb x1 x2 (.slice asv ys.length csv) ∧ RdrB w5.drew (w.heap.size + 1) (.slice av nv cv') (u, 0) := ⟨HX5.out, HR5.out⟩
        have HP6 := Lib.hid (show OP w5.drew w.heap.size 0 0 (.slice none 0 0) from HP5.out)
        have HO6 := Lib.hid (show OwnC w.heap.size w5.drew (.slice asv ys.length csv) ys from HO5.out)
        have HB6 := Lib.hid HB5.out.drew
        clear HX5 HP5 HR5 HO5 HB5 r0 r1 r2 p0 p1 p2 o0 o1 o2 g0 g1 g2 hHeld
        generalize w5.drew = w6 at HP6 HO6 HB6 hs5 ⊢
        obtain ⟨o0, o1, o2, g0, g1, g2⟩ := HP6.out.cells
        refine wpAnyH_ready (rs := [3]) (by kernel_rfl) (by simp) ?_
        refine stepH rfl (fun K hK => ?_) AllReadyH.nil
        go_simp
        refine hK.out _ _ ⟨hs5.1.only (only3 _ _ _) (by omega), hs5.2.only (only3 _ _ _) (by omega)⟩ (fun hHeld => ?_)
        clear hK K
        (try simp only [Act.put, List.setIfInBounds_toArray, List.set_cons_zero, List.set_cons_succ])
        refine takeH (i := 4) (v := ?_) rfl (by kernel_rfl) (by kernel_rfl) (by kernel_rfl) (fun _ _ _ h => h) (Or.inl ⟨by rfl, ?_⟩) (by assumption) ?_
        rotate_left
        · (intro w hSw; (try dsimp only at hSw); go_simp; first | done | with_reducible rfl)
        (try simp only [Act.put, List.setIfInBounds_toArray, List.set_cons_zero, List.set_cons_succ])
        refine takeH (i := 5) (v := ?_) rfl (by kernel_rfl) (by kernel_rfl) (by kernel_rfl) (fun _ _ _ h => h) (Or.inl ⟨by rfl, ?_⟩) (by assumption) ?_
        rotate_left
        · (intro w hSw; (try dsimp only at hSw); go_simp; first | done | with_reducible rfl)
        (try simp only [Act.put, List.setIfInBounds_toArray, List.set_cons_zero, List.set_cons_succ])
        refine wpAnyH_done (by kernel_rfl) ?_ _
        go_wp2
        refine dec_ret rfl rfl rfl (HP6.out.put3 x1 x2 _) rfl ⟨.slice asv ys.length csv, ?_, ?_, ?_⟩
        · rw [HFIN.out]
        · rw [HFIN.out]
          exact rdC_only HO6.out HP6.out (by decide) (only3 _ _ _)
        · exact seen HB6.out (Nat.le_refl _) (only3 _ _ _)
      · have HFIN := Lib.hid (hRF.out.2.2 hE)
        have hneb : (EE != 0) = true := by simpa using hE
        clear hRF hE
        obtain ⟨o0, o1, o2, g0, g1, g2⟩ := HP5.out.cells
        go_wp2
        refine dec_ret rfl rfl rfl (HP5.out.put3 0 0 (.slice none 0 0)) rfl ⟨.slice none 0 0, ?_, ?_, ?_⟩
        · rw [HFIN.out]; rfl
        · rw [HFIN.out]; exact RdG.nil hlC _
        · exact seen HB5.out (Nat.le_refl _) (only3 _ _ _)

end Go.Proofs.YtkgkhofkhjgnbaaGreat

namespace Go.Proofs.YtkgkhofkhjgnbaaGreat
open Go.RowKit
open JM (Chg St)

/-- One step of the reader, read as a number of what is left. -/
theorem step_num {xs : List Int} {u : Nat} : JM.step xs (u, 0) = if (JM.num (xs.drop u)).2.2 ≠ 0 then (0, (u, (JM.num (xs.drop u)).2.2)) else ((JM.num (xs.drop u)).1, (u + (JM.num (xs.drop u)).2.1.toNat, 0)) := if_neg (fun h => h rfl)

/-- A list of the call's own stays where another type's blocks grow or are written. -/
theorem ownG_keep {α : Type} {enc : α → List Value} {e e' : TypeId} {size base : Nat} {w w' : World} {v : Value} {ys : List α} (h : OwnG enc e size base w v ys) (hk : KeepsX e' w w') (he : e ≠ e') : OwnG enc e size base w' v ys := by
  refine ⟨⟨h.1.1, ?_⟩, h.2⟩
  rcases h.1.2 with h6 | ⟨gg, cap, cur, hv, hgg, hh, r⟩
  · exact .inl h6
  · exact .inr ⟨gg, cap, cur, hv, hgg, hk.at hh he, r⟩
theorem ownG_only {α : Type} {enc : α → List Value} {e t : TypeId} {size base : Nat} {w w' : World} {v : Value} {ys : List α} {B : Nat} {cur : Array Value} {fr : Nat × Nat} (h : OwnG enc e size base w v ys) (hB : w.heap[B]? = some (.cells cur t fr)) (ht : t ≠ e) (ho : Only B w w') : OwnG enc e size base w' v ys := by
  refine ⟨⟨h.1.1, ?_⟩, h.2⟩
  rcases h.1.2 with h6 | ⟨gg, cap, cur', hv, hgg, hh, r⟩
  · exact .inl h6
  · exact .inr ⟨gg, cap, cur', hv, hgg, ho.at hh (by rintro rfl; rw [hB] at hh; injection hh with hh; injection hh with _ ht'; exact ht ht'), r⟩

/-- Reading on at u is reading what is left from its beginning. -/
theorem step_shift (xs : List Int) (u d : Nat) (e : Int) : JM.step xs (u + d, e) = ((JM.step (xs.drop u) (d, e)).1, (u + (JM.step (xs.drop u) (d, e)).2.1, (JM.step (xs.drop u) (d, e)).2.2)) := by
  unfold JM.step
  simp only [List.drop_drop]
  split
  · rfl
  · split
    · rfl
    · simp [Nat.add_assoc]
theorem many_shift (xs : List Int) (u : Nat) (k : Nat) : JM.many xs (u, 0) k = ((JM.many (xs.drop u) (0, 0) k).1, (u + (JM.many (xs.drop u) (0, 0) k).2.1, (JM.many (xs.drop u) (0, 0) k).2.2)) := by
  induction k with
  | zero => rfl
  | succ k ih =>
    simp only [JM.many]
    rw [ih]
    simp only
    rw [step_shift xs u (JM.many (xs.drop u) (0, 0) k).2.1 (JM.many (xs.drop u) (0, 0) k).2.2]

end Go.Proofs.YtkgkhofkhjgnbaaGreat

namespace Go.Proofs.YtkgkhofkhjgnbaaGreat
open Go.RowKit
open JM (Chg St)

theorem atI_cell {w : World} {a : Option Addr} {n c : Nat} {xs : List Int} {b o : Nat} (h : RdI w (.slice a n c) xs) (k : Nat) (x : Int) (hk : xs[k]? = some x)
    (hi : ∀ w0, (Instr.indexAt 22 (.slice a n c) (.int .i64 (k : Int))).run Tryz.prog w0 = .ok (.pointer (some ⟨b, o, none⟩)) w0) : w.cell? ⟨b, o, none⟩ = some (.int .i64 x) := by
  obtain ⟨b', o', hi', _, hc⟩ := atI h k x hk
  have h1 := hi w
  rw [hi' w] at h1
  injection h1 with h1 _
  injection h1 with h1
  injection h1 with h1
  injection h1 with h1 h2 _
  subst h1 h2
  exact hc
/-- 'b[lo:]' of bytes whose length is a letter of its own. -/
theorem Rd.cutL' {w : World} {a : Option Addr} {n c : Nat} {xs : List Int} (h : Rd w (.slice a n c) xs) (lo : Nat) (h2 : lo ≤ xs.length) :
    ∃ v', (∀ w0 : World, (Instr.slice 150 (.slice a n c) (some (.int .i64 (lo : Int))) none none).run Tryz.prog w0 = .ok v' w0) ∧ Rd w v' (xs.drop lo) := by
  obtain ⟨a', c', hv, _⟩ := h.shape
  cases hv
  exact h.cutL lo h2
theorem list7 {l : List Int} (h : l.length = 7) : ∃ a b c d e f g, l = [a, b, c, d, e, f, g] := by
  match l, h with
  | [a, b, c, d, e, f, g], _ => exact ⟨a, b, c, d, e, f, g, rfl⟩
theorem fin_bad {a n : Int} {p : List Chg × St} (h : p.2.2 ≠ 0) : fin a n p = JM.bad p.2.2 := if_pos h

end Go.Proofs.YtkgkhofkhjgnbaaGreat
