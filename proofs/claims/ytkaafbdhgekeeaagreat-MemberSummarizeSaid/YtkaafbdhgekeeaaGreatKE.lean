/-
  The calls of the methods of proposal's reader: number, count, change. Conditions: the reader's block is as it is said; the input reads as bytes.
  An append as one step of a region that draws its order; proposals in a block of their own, the block written out; the answer of a decoder. No conditions beyond those that each lemma names.
  The call of proposal.Decode: it returns what the plain mathematics says of the bytes. Conditions: the slice reads as bytes.
  The calls of the reference's Number, Read and DecodeProposal: each returns what the plain mathematics says of the bytes. Conditions: the slice reads as bytes.
  The call of the reference's DecodeProposal: it returns what the plain mathematics says of the bytes. Conditions: the slice reads as bytes.
-/
import Derived.Test.YtkaafbdhgekeeaaGreatKB
import Derived.Test.YtkaafbdhgekeeaaGreatKD
import Derived.Deep.RegionLaw
import Derived.Deep.AppendLies
import Derived.StillTailTactics
import Derived.Laws.ResultCell
import Derived.Deep.RegionHeld3
import Derived.Deep.CutRange
import Derived.Test.YtkaafbdhgekeeaaGreatKC
namespace Go.Proofs.YtkaafbdhgekeeaaGreat
open Go.RowKit
open JM (Chg St)

/-- All blocks that were there but g are as they were. -/
structure Only (g : Nat) (w w' : World) : Prop where
  os : w'.os = w.os
  tape : w'.tape = w.tape
  output : w'.output = w.output
  size : w.heap.size ≤ w'.heap.size
  block : ∀ k, k < w.heap.size → k ≠ g → w'.heap[k]? = w.heap[k]?
theorem Only.refl (g : Nat) (w : World) : Only g w w := ⟨rfl, rfl, rfl, Nat.le_refl _, fun _ _ _ => rfl⟩
theorem Only.trans {g : Nat} {a b c : World} (h : Only g a b) (k : Only g b c) : Only g a c :=
  ⟨k.os.trans h.os, k.tape.trans h.tape, k.output.trans h.output, Nat.le_trans h.size k.size, fun i hi hne => (k.block i (Nat.lt_of_lt_of_le hi h.size) hne).trans (h.block i hi hne)⟩
theorem Only.drewN (g : Nat) (w : World) (n : Nat) : Only g w (w.drewN n) := ⟨rfl, rfl, rfl, Nat.le_refl _, fun _ _ _ => rfl⟩
theorem Only.set {g : Nat} {w : World} (off : Nat) (u : Value) : Only g w (w.setCell ⟨g, off, none⟩ u) := by
  have hb := (Below.refl 0 w).setCell (p := ⟨g, off, none⟩) (Nat.zero_le _) u
  exact ⟨hb.os, hb.tape, hb.output, hb.size, fun k _ hk => heap_setCell_other _ _ _ _ hk⟩
theorem Only.of {g : Nat} {w w' : World} (h : Below w.heap.size w w') : Only g w w' := ⟨h.os, h.tape, h.output, h.size, fun k hk _ => h.block k hk⟩
theorem Only.below {g B : Nat} {w w' : World} (h : Only g w w') (hB : B ≤ g) (hB2 : B ≤ w.heap.size) : Below B w w' :=
  ⟨h.os, h.tape, h.output, h.size, fun k hk => h.block k (by omega) (by omega)⟩
theorem Only.at {g : Nat} {w w' : World} (h : Only g w w') {k : Nat} {o : Obj} (hk : w.heap[k]? = some o) (hne : k ≠ g) : w'.heap[k]? = some o := by
  rw [h.block k (Array.getElem?_eq_some_iff.1 hk).1 hne, hk]

/-- Block g is a reader of the input v, in state s. -/
def RdrB (w : World) (g : Nat) (v : Value) (s : St) : Prop := w.heap[g]? = some (.cells #[v, .int .i64 (s.1 : Int), .int .i64 s.2] 71 (0, 0))
theorem RdrB.cells {w : World} {g : Nat} {v : Value} {s : St} (h : RdrB w g v s) :
    w.cell? ⟨g, 0, none⟩ = some v ∧ w.cell? ⟨g, 1, none⟩ = some (.int .i64 (s.1 : Int)) ∧ w.cell? ⟨g, 2, none⟩ = some (.int .i64 s.2) ∧ w.frozen? ⟨g, 0, none⟩ = false ∧ w.frozen? ⟨g, 1, none⟩ = false ∧ w.frozen? ⟨g, 2, none⟩ = false := by
  unfold RdrB at h
  refine ⟨?_, ?_, ?_, ?_, ?_, ?_⟩
  · simp [World.cell?, h]
  · simp [World.cell?, h]
  · simp [World.cell?, h]
  · simp [World.frozen?, h]
  · simp [World.frozen?, h]
  · simp [World.frozen?, h]
theorem RdrB.used {w : World} {g : Nat} {v : Value} {u : Nat} {e : Int} (h : RdrB w g v (u, e)) (u' : Nat) : RdrB (w.setCell ⟨g, 1, none⟩ (.int .i64 (u' : Int))) g v (u', e) :=
  heap_setCell_same w g 1 _ _ _ h
theorem RdrB.fail {w : World} {g : Nat} {v : Value} {u : Nat} {e : Int} (h : RdrB w g v (u, e)) (e' : Int) : RdrB (w.setCell ⟨g, 2, none⟩ (.int .i64 e')) g v (u, e') :=
  heap_setCell_same w g 2 _ _ _ h

theorem wUintQ {w : World} {v : Value} {xs : List Int} (h : Rd w v xs) (n : Nat) :
    Calls Tryz.prog 79 #[v] (w.drewN n) fun e w' => e = .returned (.tuple #[.int .u64 (WM.dec 0 0 xs).1, .int .i64 (WM.dec 0 0 xs).2.1, .int .i64 (WM.dec 0 0 xs).2.2]) ∧ ∃ k, w' = w.drewN k := by
  refine (wUint v xs (w.drewN n) h).mono ?_
  rintro e w1 ⟨rfl, rfl⟩
  exact ⟨rfl, n, rfl⟩

set_option maxRecDepth 100000 in
set_option maxHeartbeats 2000000 in
/-- What 'number' decodes. -/
theorem cNumber (v : Value) (xs : List Int) (w : World) (h : Rd w v xs) :
    Calls Tryz.prog 65 #[v] w fun e w' => e = .returned (.tuple #[.int .i64 (JM.num xs).1, .int .i64 (JM.num xs).2.1, .int .i64 (JM.num xs).2.2]) ∧ w' = w := by
  have HU := Lib.hid (wUint v xs w h)
  rcases WM.dec_two xs h.bytes with ⟨e1, he1, hd⟩ | ⟨m, hm, hd, hml, _⟩
  · have HN := Lib.hid (show JM.num xs = (0, 0, e1) by unfold JM.num; rw [hd]; simp only [ne_eq]; rw [if_pos (show ¬ e1 = 0 by omega)])
    rw [HN.out]
    rw [hd] at HU
    clear h he1 hd HN
    go_enter Tryz.func65, Tryz.ntmps65
    go_wp2_with fail
    refine HU.out.mono ?_
    rintro e w1 ⟨rfl, rfl⟩
    clear HU
    go_wp2
    go_ret3
    exact ⟨rfl, rfl⟩
  · rw [hd] at HU
    by_cases hbig : 2147483647 < (m : Int)
    · have HN := Lib.hid (show JM.num xs = (0, 0, 9) by unfold JM.num; rw [hd]; simp [hbig])
      rw [HN.out]
      clear h hd HN hml
      go_enter Tryz.func65, Tryz.ntmps65
      go_wp2_with fail
      refine HU.out.mono ?_
      rintro e w1 ⟨rfl, rfl⟩
      clear HU
      go_wp2
      go_ret3
      exact ⟨rfl, rfl⟩
    · have HN := Lib.hid (show JM.num xs = ((m : Int), ((WM.enc m).length : Int), 0) by unfold JM.num; rw [hd]; simp [hbig])
      rw [HN.out]
      have hw2 : IntKind.i64.wrap (m : Int) = (m : Int) := IntWalk.i64_in _ (by omega)
      generalize (WM.enc m).length = L at HU
      clear h hd HN hml
      go_enter Tryz.func65, Tryz.ntmps65
      go_wp2_with fail
      refine HU.out.mono ?_
      rintro e w1 ⟨rfl, rfl⟩
      clear HU
      go_wp2
      go_ret3
      exact ⟨rfl, rfl⟩

set_option maxRecDepth 100000 in
set_option maxHeartbeats 2000000 in
/-- A reader that has not failed reads one value more. -/
theorem rdReadI (g : Nat) (v v2 : Value) (xs : List Int) (u : Nat) (w : World) (hb : RdrB w g v (u, 0)) (h : Rd w v xs) (F : FuncId) (X : Int) (N : Nat) (E : Int)
    (hcut : ∀ w0 : World, (Instr.slice 54 v (some (.int .i64 (u : Int))) none none).run Tryz.prog w0 = .ok v2 w0)
    (eF : ∀ args w, (callFunc F args).run Tryz.prog w = .ok (.enter F args) w)
    (hD : ∀ n, Calls Tryz.prog F #[v2] (w.drewN n) fun e w' => e = .returned (.tuple #[.int .i64 X, .int .i64 (N : Int), .int .i64 E]) ∧ ∃ k, w' = w.drewN k)
    (hle : u + N ≤ xs.length) :
    Calls Tryz.prog 64 #[.pointer (some ⟨g, 0, none⟩), .func (.func F) #[] #[]] w fun e w' => e = .returned (.int .i64 X) ∧ RdrB w' g v (u + N, E) ∧ Only g w w' := by
  obtain ⟨ad, cp, rfl, hcp⟩ := h.shape
  obtain ⟨c0, c1, c2, f0, f1, f2⟩ := hb.cells
  have hxl : xs.length ≤ 9223372036854775807 := by
    obtain ⟨_, _, _, _, hn1, hn2, hcm, _⟩ := h
    unfold maxLen at hcm
    omega
  have HB := Lib.hid hb
  have HU := Lib.hid hD
  have hsum := Lib.hid (show (u : Int) + (N : Int) = ((u + N : Nat) : Int) by omega)
  have HF := Lib.hid (fun n => ((show RdrB (w.drewN n) g (.slice ad xs.length cp) (u, 0) from HB.out).used (u + N)).fail E)
  simp only at c1 c2
  have hw1 : (u : Int) + (N : Int) ≤ 9223372036854775807 := by omega
  clear h hb hcp hD
  go_enter Tryz.func64, Tryz.ntmps64
  go_wp2
  go_quiet (first | (go_at_fn F; exact HU.out _))
  go_wp2
  rw [hsum.out]
  go_ret
  exact ⟨rfl, HF.out _, ((Only.drewN g w _).trans (Only.set 1 _)).trans (Only.set 2 _)⟩

set_option maxRecDepth 100000 in
/-- A reader that has failed reads zero. -/
theorem rdStopI (g : Nat) (v : Value) (u : Nat) (er : Int) (w : World) (hb : RdrB w g v (u, er)) (he : er ≠ 0) (f : Value) :
    Calls Tryz.prog 64 #[.pointer (some ⟨g, 0, none⟩), f] w fun e w' => e = .returned (.int .i64 0) ∧ RdrB w' g v (u, er) ∧ Only g w w' := by
  obtain ⟨c0, c1, c2, f0, f1, f2⟩ := hb.cells
  have hne : (er != 0) = true := bne_t he
  have HB := Lib.hid hb
  simp only at c1 c2
  clear he hb
  go_enter Tryz.func64, Tryz.ntmps64
  go_wp2
  go_ret
  exact ⟨rfl, HB.out, Only.refl _ _⟩

set_option maxRecDepth 100000 in
set_option maxHeartbeats 2000000 in
theorem rdNumber (g : Nat) (v : Value) (xs : List Int) (s : St) (w : World) (hb : RdrB w g v s) (h : Rd w v xs) (hu : s.1 ≤ xs.length) :
    Calls Tryz.prog 34 #[.pointer (some ⟨g, 0, none⟩)] w fun e w' => e = .returned (.int .i64 (JM.step xs s).1) ∧ RdrB w' g v (JM.step xs s).2 ∧ Only g w w' := by
  have HC : Hid (Calls Tryz.prog 64 #[.pointer (some ⟨g, 0, none⟩), .func (.func 65) #[] #[]] w fun e w' => e = .returned (.int .i64 (JM.step xs s).1) ∧ RdrB w' g v (JM.step xs s).2 ∧ Only g w w') := by
    refine Lib.hid ?_
    obtain ⟨u, er⟩ := s
    by_cases he : er = 0
    · subst he
      obtain ⟨ad, cp, rfl, hcp⟩ := h.shape
      obtain ⟨v2, hcut, hrd⟩ := h.cutL u hu
      have hHD := fun n => (cNumber v2 _ (w.drewN n) hrd).mono (fun e w' (h : _ ∧ _) => (⟨h.1, n, h.2⟩ : _ ∧ ∃ k, w' = w.drewN k))
      have hxd : (xs.drop u).length = xs.length - u := List.length_drop
      simp only at hu
      rcases JM.num_two (xs.drop u) hrd.bytes with ⟨e1, he1, hd⟩ | ⟨m, hm, hd, hml⟩
      · have HS : JM.step xs (u, 0) = (0, (u, e1)) := by unfold JM.step; rw [if_neg (by simp), hd, if_pos (show ¬ e1 = 0 by omega)]
        rw [HS]
        rw [hd] at hHD
        have := rdReadI g _ v2 xs u w hb h 65 0 0 e1 hcut (fun _ _ => rfl) (fun n => hHD n) (by omega)
        exact this
      · have HS : JM.step xs (u, 0) = ((m : Int), (u + (WM.enc m).length, 0)) := by unfold JM.step; rw [if_neg (by simp), hd, if_neg (by simp)]; rfl
        rw [HS]
        rw [hd] at hHD
        exact rdReadI g _ v2 xs u w hb h 65 m _ 0 hcut (fun _ _ => rfl) (fun n => hHD n) (by omega)
    · rw [JM.step_stop he]
      exact rdStopI g v u er w hb he _
  clear hb h hu
  generalize JM.step xs s = p at HC
  obtain ⟨x, s'⟩ := p
  go_enter Tryz.func34, Tryz.ntmps34
  go_wp2_with fail
  refine HC.out.mono ?_
  rintro e w1 ⟨rfl, hr, ho⟩
  clear HC
  go_wp2
  go_ret
  exact ⟨rfl, hr, ho⟩

/-- What a run of the reader keeps, seen from the world in which the input was laid. -/
theorem seen {g : Nat} {W w w' : World} (hb : Below W.heap.size W w) (hg : W.heap.size ≤ g) (h : Only g w w') : Below W.heap.size W w' := hb.trans (h.below hg hb.size)

theorem many7 {xs : List Int} {s s1 s2 s3 s4 s5 s6 s7 : St} {x1 x2 x3 x4 x5 x6 x7 : Int} (h1 : JM.step xs s = (x1, s1)) (h2 : JM.step xs s1 = (x2, s2)) (h3 : JM.step xs s2 = (x3, s3)) (h4 : JM.step xs s3 = (x4, s4)) (h5 : JM.step xs s4 = (x5, s5)) (h6 : JM.step xs s5 = (x6, s6)) (h7 : JM.step xs s6 = (x7, s7)) :
    JM.many xs s 7 = ([x1, x2, x3, x4, x5, x6, x7], s7) := by
  simp [JM.many, h1, h2, h3, h4, h5, h6, h7]

theorem chg_put {w : World} {g : Nat} {a0 a1 a2 a3 a4 a5 a6 : Value} (h : w.heap[g]? = some (.cells #[a0, a1, a2, a3, a4, a5, a6] 50 (0, 0))) (b0 b1 b2 b3 b4 b5 b6 : Value) :
    (((((((w.setCell ⟨g, 0, none⟩ b0).setCell ⟨g, 1, none⟩ b1).setCell ⟨g, 2, none⟩ b2).setCell ⟨g, 3, none⟩ b3).setCell ⟨g, 4, none⟩ b4).setCell ⟨g, 5, none⟩ b5).setCell ⟨g, 6, none⟩ b6).heap[g]? = some (.cells #[b0, b1, b2, b3, b4, b5, b6] 50 (0, 0)) ∧
    Only g w (((((((w.setCell ⟨g, 0, none⟩ b0).setCell ⟨g, 1, none⟩ b1).setCell ⟨g, 2, none⟩ b2).setCell ⟨g, 3, none⟩ b3).setCell ⟨g, 4, none⟩ b4).setCell ⟨g, 5, none⟩ b5).setCell ⟨g, 6, none⟩ b6) := by
  have h1 : (w.setCell ⟨g, 0, none⟩ b0).heap[g]? = some (.cells #[b0, a1, a2, a3, a4, a5, a6] 50 (0, 0)) := heap_setCell_same w g 0 _ _ b0 h
  have o1 : Only g w (w.setCell ⟨g, 0, none⟩ b0) := Only.set 0 b0
  generalize w.setCell ⟨g, 0, none⟩ b0 = w1 at h1 o1 ⊢
  clear h
  have h2 : (w1.setCell ⟨g, 1, none⟩ b1).heap[g]? = some (.cells #[b0, b1, a2, a3, a4, a5, a6] 50 (0, 0)) := heap_setCell_same w1 g 1 _ _ b1 h1
  have o2 : Only g w (w1.setCell ⟨g, 1, none⟩ b1) := o1.trans (Only.set 1 b1)
  generalize w1.setCell ⟨g, 1, none⟩ b1 = w2 at h2 o2 ⊢
  clear h1 o1
  have h3 : (w2.setCell ⟨g, 2, none⟩ b2).heap[g]? = some (.cells #[b0, b1, b2, a3, a4, a5, a6] 50 (0, 0)) := heap_setCell_same w2 g 2 _ _ b2 h2
  have o3 : Only g w (w2.setCell ⟨g, 2, none⟩ b2) := o2.trans (Only.set 2 b2)
  generalize w2.setCell ⟨g, 2, none⟩ b2 = w3 at h3 o3 ⊢
  clear h2 o2
  have h4 : (w3.setCell ⟨g, 3, none⟩ b3).heap[g]? = some (.cells #[b0, b1, b2, b3, a4, a5, a6] 50 (0, 0)) := heap_setCell_same w3 g 3 _ _ b3 h3
  have o4 : Only g w (w3.setCell ⟨g, 3, none⟩ b3) := o3.trans (Only.set 3 b3)
  generalize w3.setCell ⟨g, 3, none⟩ b3 = w4 at h4 o4 ⊢
  clear h3 o3
  have h5 : (w4.setCell ⟨g, 4, none⟩ b4).heap[g]? = some (.cells #[b0, b1, b2, b3, b4, a5, a6] 50 (0, 0)) := heap_setCell_same w4 g 4 _ _ b4 h4
  have o5 : Only g w (w4.setCell ⟨g, 4, none⟩ b4) := o4.trans (Only.set 4 b4)
  generalize w4.setCell ⟨g, 4, none⟩ b4 = w5 at h5 o5 ⊢
  clear h4 o4
  have h6 : (w5.setCell ⟨g, 5, none⟩ b5).heap[g]? = some (.cells #[b0, b1, b2, b3, b4, b5, a6] 50 (0, 0)) := heap_setCell_same w5 g 5 _ _ b5 h5
  have o6 : Only g w (w5.setCell ⟨g, 5, none⟩ b5) := o5.trans (Only.set 5 b5)
  generalize w5.setCell ⟨g, 5, none⟩ b5 = w6 at h6 o6 ⊢
  clear h5 o5
  have h7 : (w6.setCell ⟨g, 6, none⟩ b6).heap[g]? = some (.cells #[b0, b1, b2, b3, b4, b5, b6] 50 (0, 0)) := heap_setCell_same w6 g 6 _ _ b6 h6
  have o7 : Only g w (w6.setCell ⟨g, 6, none⟩ b6) := o6.trans (Only.set 6 b6)
  generalize w6.setCell ⟨g, 6, none⟩ b6 = w7 at h7 o7 ⊢
  clear h6 o6
  exact ⟨h7, o7⟩
theorem chg_free {w : World} {g : Nat} {cs : Array Value} (h : w.heap[g]? = some (.cells cs 50 (0, 0))) (i : Nat) : w.frozen? ⟨g, i, none⟩ = false := by simp [World.frozen?, h]

end Go.Proofs.YtkaafbdhgekeeaaGreat

namespace Go.Proofs.YtkaafbdhgekeeaaGreat
open Go.RowKit
open JM (Chg St)

section
variable {α : Type} {P : Program} {t e : TypeId} {size bytes : Nat} {enc : α → List Value}
variable {w : World} {ops : Array Oper} {o : Oper} {a : Act} {K : Act → World → Prop} {Q : Exit → Act → World → Prop} {F : Prop} {base : Nat} {v : Value} {ys : List α}
/-- 'append(out, x)' as one step of a region that draws its order. -/
theorem step_appG1 (E : IsElem P t e size bytes enc) (x : α) (hgd : o.guard = none) (s r : Operand) (ho : o.op = .call { callee := .builtin .append, args := #[s, r], argTypes := #[t, t] })
    (hs : a.eval s = v) (hown : OwnG enc e size base w v ys) (hx : a.eval r = .slice (some ⟨w.heap.size, 0, none⟩) 1 1) (hlen : ys.length ≤ 1073741824) (hb : base ≤ w.heap.size)
    (h : ∀ v' w', OwnG enc e size base w' v' (ys ++ [x]) → Below base w w' → KeepsX e w w' → K (a.put o.dst v') w') :
    if Region.wanted o (yielded ops a.tmps) = true then Oper.wp P o a (w.alloc (.cells (enc x).toArray e)) K Q else F := by
  obtain ⟨i0, z, hi, hz0, hz1, hz2, hz3⟩ := E.info
  have hown' := World.ownsRow.alloc hown.1 (.cells (enc x).toArray e)
  refine step_append_lies (w := w.alloc (.cells (enc x).toArray e)) hgd s r t ho base e i0 z size bytes E.ht hi hz0 hz1 hz2 hz3 E.pos _ _ _ hs hown' ⟨w.heap.size, 0, none⟩ 1 1 (enc x) hx (by rw [E.len, Nat.one_mul]) ?_ (E.one x) (by decide) ?_ ?_ ?_ _ rfl ?_
  · intro j u hu
    rw [addr_plain, Nat.zero_add, World.cell?_alloc_new]
    simpa using hu
  · unfold maxLen; omega
  · have := E.fits
    calc (ys.length + 1) * bytes ≤ (1073741824 + 1) * 4096 := Nat.mul_le_mul (by omega) this
      _ ≤ 140737488355328 := by decide
  · simp; omega
  · intro g cap w1 ho1 hg1 _ _
    have hk0 : KeepsX e w (w.alloc (.cells (enc x).toArray e)) := Below.keepsX (below_fresh w _) e
    refine h _ w1 ⟨?_, hown.2⟩ (((Below.refl _ _).alloc hb _).grown hg1 (by simp; omega) (fun k hk => (World.ownsRow.lt hown.1 k hk).1)) (hk0.trans (by simp) (keepsX_grown hown' hg1))
    rw [cellsOf_append, List.length_append]
    simpa [cellsOf] using ho1
end

/-- A proposal in a block of its own, the block written out. -/
def OP (w : World) (B : Nat) (a n : Int) (s : Value) : Prop := w.heap[B]? = some (.cells #[.int .i64 a, .int .i64 n, s] 45 (0, 0))
theorem OP.cells {w : World} {B : Nat} {a n : Int} {s : Value} (h : OP w B a n s) : w.cell? ⟨B, 0, none⟩ = some (.int .i64 a) ∧ w.cell? ⟨B, 1, none⟩ = some (.int .i64 n) ∧ w.cell? ⟨B, 2, none⟩ = some s ∧
    w.frozen? ⟨B, 0, none⟩ = false ∧ w.frozen? ⟨B, 1, none⟩ = false ∧ w.frozen? ⟨B, 2, none⟩ = false := by
  unfold OP at h
  refine ⟨?_, ?_, ?_, ?_, ?_, ?_⟩ <;> simp [World.cell?, World.frozen?, h]
theorem OP.lt {w : World} {B : Nat} {a n : Int} {s : Value} (h : OP w B a n s) : B < w.heap.size := (Array.getElem?_eq_some_iff.1 h).1
theorem OP.below {w w' : World} {B : Nat} {a n : Int} {s : Value} (h : OP w B a n s) (hb : Below w.heap.size w w') : OP w' B a n s := below_block h hb
theorem OP.keep {w w' : World} {e : TypeId} {B : Nat} {a n : Int} {s : Value} (h : OP w B a n s) (he : 45 ≠ e) (hk : KeepsX e w w') : OP w' B a n s := hk.at h he
theorem OP.only {w w' : World} {g B : Nat} {a n : Int} {s : Value} (h : OP w B a n s) (ho : Only g w w') (hne : B ≠ g) : OP w' B a n s := ho.at h hne
theorem OP.fresh (w : World) (a n : Int) (s : Value) : OP (w.alloc (.cells #[.int .i64 a, .int .i64 n, s] 45)) w.heap.size a n s := heap_alloc_new w _
theorem OP.put {w : World} {B : Nat} {a n : Int} {s : Value} (h : OP w B a n s) (u : Value) : OP (w.setCell ⟨B, 2, none⟩ u) B a n u := heap_setCell_same w B 2 _ _ u h
theorem OP.put3 {w : World} {B : Nat} {a n : Int} {s : Value} (h : OP w B a n s) (a' n' : Int) (u : Value) : OP (((w.setCell ⟨B, 0, none⟩ (.int .i64 a')).setCell ⟨B, 1, none⟩ (.int .i64 n')).setCell ⟨B, 2, none⟩ u) B a' n' u := by
  have h1 : (w.setCell ⟨B, 0, none⟩ (.int .i64 a')).heap[B]? = some (.cells #[.int .i64 a', .int .i64 n, s] 45 (0, 0)) := heap_setCell_same w B 0 _ _ _ h
  have h2 : ((w.setCell ⟨B, 0, none⟩ (.int .i64 a')).setCell ⟨B, 1, none⟩ (.int .i64 n')).heap[B]? = some (.cells #[.int .i64 a', .int .i64 n', s] 45 (0, 0)) := heap_setCell_same _ B 1 _ _ _ h1
  exact heap_setCell_same _ B 2 _ _ u h2
theorem only3 {w : World} {B : Nat} (x y z : Value) : Only B w (((w.setCell ⟨B, 0, none⟩ x).setCell ⟨B, 1, none⟩ y).setCell ⟨B, 2, none⟩ z) := ((Only.set 0 x).trans (Only.set 1 y)).trans (Only.set 2 z)
theorem RdrB.keep {w w' : World} {e : TypeId} {g : Nat} {v : Value} {s : St} (h : RdrB w g v s) (he : 71 ≠ e) (hk : KeepsX e w w') : RdrB w' g v s := hk.at h he
theorem RdrB.only {w w' : World} {B g : Nat} {v : Value} {s : St} (h : RdrB w g v s) (ho : Only B w w') (hne : g ≠ B) : RdrB w' g v s := ho.at h hne
/-- The call's own changes stay where another type's block is written. -/
theorem ownC_only {base : Nat} {w w' : World} {v : Value} {ys : List Chg} {B : Nat} {t : TypeId} {cur : Array Value} {fr : Nat × Nat} (h : OwnC base w v ys) (hB : w.heap[B]? = some (.cells cur t fr)) (ht : t ≠ 50) (ho : Only B w w') : OwnC base w' v ys := by
  refine ⟨⟨h.1.1, ?_⟩, h.2⟩
  rcases h.1.2 with h6 | ⟨gg, cap, cur', hv, hgg, hh, r⟩
  · exact .inl h6
  · exact .inr ⟨gg, cap, cur', hv, hgg, ho.at hh (by rintro rfl; rw [hB] at hh; injection hh with hh; injection hh with _ ht'; exact ht ht'), r⟩
theorem rdC_only {w w' : World} {v : Value} {ys : List Chg} {B base : Nat} {t : TypeId} {cur : Array Value} {fr : Nat × Nat} (h : OwnC base w v ys) (hB : w.heap[B]? = some (.cells cur t fr)) (ht : t ≠ 50) (ho : Only B w w') : RdC w' v ys := (ownC_only h hB ht ho).rd

theorem results_cell_tmp_tmp {P : Program} {fn : Func} {p u q : Tmp} {ty : TypeId} (h : fn.results = #[.cell p ty, .tmp u, .tmp q]) (tmps : Array Value) (w : World) (g : Nat) (t : TypeId) (cs : Array Value) (fr : Nat × Nat) (d : TypeDesc)
    (hp : tmps.getD p undef = .pointer (some ⟨g, 0, none⟩)) (hg : w.heap[g]? = some (.cells cs t fr))
    (hu : P.underlying ty = some d) (hd : (match d with | .struct _ | .array _ _ => true | _ => false) = true) (hi : (P.info? ty).map (·.size) = some cs.size) :
    (results fn tmps).run P w = .ok (.tuple #[.agg cs, tmps.getD u undef, tmps.getD q undef]) w := by
  have hp' : tmps[p]?.getD undef = .pointer (some ⟨g, 0, none⟩) := by simpa using hp
  simp [results, h, hp', asAddr, run_loadVar_row w g t ty cs fr d hg hu hd hi, Result.andThen]

end Go.Proofs.YtkaafbdhgekeeaaGreat

namespace Go.Proofs.YtkaafbdhgekeeaaGreat
open Go.RowKit
open JM (Chg St)

/-- What Decode makes of what has been read. -/
def fin (a n : Int) (p : List Chg × St) : Int × Nat × Int × Int × List Chg :=
  if p.2.2 ≠ 0 then JM.bad p.2.2 else if JM.errP a n p.1 ≠ 0 then JM.bad (JM.errP a n p.1) else (0, p.2.1, a, n, p.1)
theorem many3 {xs : List Int} {s s1 s2 s3 : St} {x1 x2 x3 : Int} (h1 : JM.step xs s = (x1, s1)) (h2 : JM.step xs s1 = (x2, s2)) (h3 : JM.step xs s2 = (x3, s3)) : JM.many xs s 3 = ([x1, x2, x3], s3) := by
  simp [JM.many, h1, h2, h3]
theorem step_zero {xs : List Int} {s s' : St} {x : Int} (h : JM.step xs s = (x, s')) (hx : 0 < x) : s'.2 = 0 := by
  unfold JM.step at h
  split at h
  · cases h; omega
  split at h
  · cases h; omega
  · cases h; rfl
theorem decP_run {xs : List Int} {s1 s2 s3 : St} {x1 x2 x3 : Int} (h1 : JM.step xs (0, 0) = (x1, s1)) (h2 : JM.step xs s1 = (x2, s2)) (h3 : JM.step xs s2 = (x3, s3)) :
    JM.decP xs = fin x1 x2 (JM.chs xs (if 6 < x3 then (s3.1, 3) else s3) (if 6 < x3 then 0 else x3).toNat) := by
  have hm := many3 h1 h2 h3
  have hc : JM.cnt xs = x3 := by unfold JM.cnt; rw [hm]; rfl
  unfold JM.decP
  rw [hc, hm]
  by_cases h6 : 6 < x3
  · have hz := step_zero h3 (by omega)
    simp only [if_pos h6]
    rw [if_neg (by rw [hz]; simp)]
    rfl
  · simp only [if_neg h6]
    by_cases hs : s3.2 = 0
    · rw [if_neg (by rw [hs]; simp)]
      rfl
    · rw [if_pos hs]
      unfold fin
      rw [JM.chs_stop hs, if_pos hs]

end Go.Proofs.YtkaafbdhgekeeaaGreat

namespace Go.Proofs.YtkaafbdhgekeeaaGreat
open Go.RowKit
open JM (Chg St)

/-- One step of the reader, read as a number of what is left. -/
theorem step_num {xs : List Int} {u : Nat} : JM.step xs (u, 0) = if (JM.num (xs.drop u)).2.2 ≠ 0 then (0, (u, (JM.num (xs.drop u)).2.2)) else ((JM.num (xs.drop u)).1, (u + (JM.num (xs.drop u)).2.1.toNat, 0)) := if_neg (fun h => h rfl)

/-- A list of the call's own stays where another type's blocks grow or are written. -/
theorem ownG_keep {α : Type} {enc : α → List Value} {e e' : TypeId} {size base : Nat} {w w' : World} {v : Value} {ys : List α} (h : OwnG enc e size base w v ys) (hk : KeepsX e' w w') (he : e ≠ e') : OwnG enc e size base w' v ys := by
  refine ⟨⟨h.1.1, ?_⟩, h.2⟩
  rcases h.1.2 with h6 | ⟨gg, cap, cur, hv, hgg, hh, r⟩
  · exact .inl h6
  · exact .inr ⟨gg, cap, cur, hv, hgg, hk.at hh he, r⟩
theorem ownG_only {α : Type} {enc : α → List Value} {e t : TypeId} {size base : Nat} {w w' : World} {v : Value} {ys : List α} {B : Nat} {cur : Array Value} {fr : Nat × Nat} (h : OwnG enc e size base w v ys) (hB : w.heap[B]? = some (.cells cur t fr)) (ht : t ≠ e) (ho : Only B w w') : OwnG enc e size base w' v ys := by
  refine ⟨⟨h.1.1, ?_⟩, h.2⟩
  rcases h.1.2 with h6 | ⟨gg, cap, cur', hv, hgg, hh, r⟩
  · exact .inl h6
  · exact .inr ⟨gg, cap, cur', hv, hgg, ho.at hh (by rintro rfl; rw [hB] at hh; injection hh with hh; injection hh with _ ht'; exact ht ht'), r⟩

/-- Reading on at u is reading what is left from its beginning. -/
theorem step_shift (xs : List Int) (u d : Nat) (e : Int) : JM.step xs (u + d, e) = ((JM.step (xs.drop u) (d, e)).1, (u + (JM.step (xs.drop u) (d, e)).2.1, (JM.step (xs.drop u) (d, e)).2.2)) := by
  unfold JM.step
  simp only [List.drop_drop]
  split
  · rfl
  · split
    · rfl
    · simp [Nat.add_assoc]
theorem many_shift (xs : List Int) (u : Nat) (k : Nat) : JM.many xs (u, 0) k = ((JM.many (xs.drop u) (0, 0) k).1, (u + (JM.many (xs.drop u) (0, 0) k).2.1, (JM.many (xs.drop u) (0, 0) k).2.2)) := by
  induction k with
  | zero => rfl
  | succ k ih =>
    simp only [JM.many]
    rw [ih]
    simp only
    rw [step_shift xs u (JM.many (xs.drop u) (0, 0) k).2.1 (JM.many (xs.drop u) (0, 0) k).2.2]

end Go.Proofs.YtkaafbdhgekeeaaGreat

namespace Go.Proofs.YtkaafbdhgekeeaaGreat
open Go.RowKit
open JM (Chg St)

theorem atI_cell {w : World} {a : Option Addr} {n c : Nat} {xs : List Int} {b o : Nat} (h : RdI w (.slice a n c) xs) (k : Nat) (x : Int) (hk : xs[k]? = some x)
    (hi : ∀ w0, (Instr.indexAt 34 (.slice a n c) (.int .i64 (k : Int))).run Tryz.prog w0 = .ok (.pointer (some ⟨b, o, none⟩)) w0) : w.cell? ⟨b, o, none⟩ = some (.int .i64 x) := by
  obtain ⟨b', o', hi', _, hc⟩ := atI h k x hk
  have h1 := hi w
  rw [hi' w] at h1
  injection h1 with h1 _
  injection h1 with h1
  injection h1 with h1
  injection h1 with h1 h2 _
  subst h1 h2
  exact hc
/-- 'b[lo:]' of bytes whose length is a letter of its own. -/
theorem Rd.cutL' {w : World} {a : Option Addr} {n c : Nat} {xs : List Int} (h : Rd w (.slice a n c) xs) (lo : Nat) (h2 : lo ≤ xs.length) :
    ∃ v', (∀ w0 : World, (Instr.slice 54 (.slice a n c) (some (.int .i64 (lo : Int))) none none).run Tryz.prog w0 = .ok v' w0) ∧ Rd w v' (xs.drop lo) := by
  obtain ⟨a', c', hv, _⟩ := h.shape
  cases hv
  exact h.cutL lo h2
theorem list7 {l : List Int} (h : l.length = 7) : ∃ a b c d e f g, l = [a, b, c, d, e, f, g] := by
  match l, h with
  | [a, b, c, d, e, f, g], _ => exact ⟨a, b, c, d, e, f, g, rfl⟩
theorem fin_bad {a n : Int} {p : List Chg × St} (h : p.2.2 ≠ 0) : fin a n p = JM.bad p.2.2 := if_pos h

end Go.Proofs.YtkaafbdhgekeeaaGreat
